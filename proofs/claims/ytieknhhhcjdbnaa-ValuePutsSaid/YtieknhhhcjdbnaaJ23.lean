/- Texts joined: VlRefCmp CkRefOf. -/
import Derived.Test.YtieknhhhcjdbnaaVlOrd
import Derived.Test.YtieknhhhcjdbnaaJ18
import Derived.Test.YtieknhhhcjdbnaaJ21
import Derived.Test.YtieknhhhcjdbnaaVals
import Derived.Test.YtieknhhhcjdbnaaCkPlain
/- Contract of the document's order of values. Nothing that was there changes. -/
namespace Go.Proofs.Ytieknhhhcjdbnaa
open Go.RowKit
set_option linter.unusedVariables false
set_option linter.unusedSimpArgs false
set_option maxRecDepth 100000

attribute [local go_sem] binOp_gtr_tx
set_option maxHeartbeats 1000000 in
theorem refCmp_any (a b : Vl) (w : World) : Calls Try.prog 8 #[vW a, vW b] w fun e w' => e = .returned (.int .i64 (cmpV a b)) ∧ Below w.heap.size w w' := by
  have hc := cmp_cases a b
  obtain ⟨r, hr⟩ : ∃ r, cmpV a b = r := ⟨_, rfl⟩
  rw [hr] at hc ⊢
  obtain ⟨a0, a1, za⟩ := a
  obtain ⟨b0, b1, zb⟩ := b
  simp only at hc
  unfold vW
  simp only
  have hB : Below w.heap.size w ((w.alloc (.cells #[.int .i64 a0, .int .i64 a1, .string ⟨za.toArray⟩] 23)).alloc (.cells #[.int .i64 b0, .int .i64 b1, .string ⟨zb.toArray⟩] 23)) :=
    ((Below.refl _ _).alloc (Nat.le_refl _) _).alloc (by simp) _
  clear hr
  rcases hc with ⟨h, rfl⟩ | ⟨h, rfl⟩ | ⟨rfl, ⟨rfl, ⟨h, rfl⟩ | ⟨h, rfl⟩ | ⟨rfl, rfl⟩⟩ | ⟨rfl, ⟨h, rfl⟩ | ⟨h, rfl⟩ | ⟨rfl, rfl⟩⟩ | ⟨h1, h2, rfl⟩⟩
  · go_enter Try.func8, Try.ntmps8
    go_wp2_with fail
    go_ret
    exact ⟨rfl, hB⟩
  · have h' : ¬ a0 < b0 := by omega
    go_enter Try.func8, Try.ntmps8
    go_wp2_with fail
    go_ret
    exact ⟨rfl, hB⟩
  · go_enter Try.func8, Try.ntmps8
    go_wp2_with fail
    go_ret
    exact ⟨rfl, hB⟩
  · have h' : ¬ a1 < b1 := by omega
    have h'' : decide (a1 < b1) = false := by simp [h']
    go_enter Try.func8, Try.ntmps8
    go_wp2_with fail
    go_ret
    exact ⟨rfl, hB⟩
  · go_enter Try.func8, Try.ntmps8
    go_wp2_with fail
    go_ret
    exact ⟨rfl, hB⟩
  · have l1 := less_of h
    have l2 := less_not (tlt_asymm h)
    have g1 : decide (tlt za zb) = true := by simp [h]
    have g2 : decide (tlt zb za) = false := by simp [tlt_asymm h]
    clear h
    go_enter Try.func8, Try.ntmps8
    go_wp2_with fail
    go_ret
    exact ⟨rfl, hB⟩
  · have l1 := less_of h
    have l2 := less_not (tlt_asymm h)
    have g1 : decide (tlt zb za) = true := by simp [h]
    have g2 : decide (tlt za zb) = false := by simp [tlt_asymm h]
    clear h
    go_enter Try.func8, Try.ntmps8
    go_wp2_with fail
    go_ret
    exact ⟨rfl, hB⟩
  · have l1 := less_not (tlt_irrefl za)
    have g1 : decide (tlt za za) = false := by simp [tlt_irrefl za]
    go_enter Try.func8, Try.ntmps8
    go_wp2_with fail
    go_ret
    exact ⟨rfl, hB⟩
  · have q1 : (a0 == 1) = false := by simp [h1]
    have q2 : (a0 == 2) = false := by simp [h2]
    clear h1 h2
    go_enter Try.func8, Try.ntmps8
    go_wp2_with fail
    go_ret
    exact ⟨rfl, hB⟩
end Go.Proofs.Ytieknhhhcjdbnaa

/- Contracts of the document's side of a chunk: is a way one of a kind; may a value stand in a column. Nothing that was there changes. -/
namespace Go.Proofs.Ytieknhhhcjdbnaa
open Go.RowKit
set_option linter.unusedVariables false
set_option linter.unusedSimpArgs false
set_option maxRecDepth 100000

theorem refOf_any (way kd : Int) (w : World) : Calls Try.prog 27 #[.int .i64 way, .int .i64 kd] w fun e w' => e = .returned (.bool (ofW way kd)) ∧ w = w' := by
  obtain ⟨r, hr⟩ : ∃ r, ofW way kd = r := ⟨_, rfl⟩
  rw [hr]
  unfold ofW at hr
  go_enter Try.func27, Try.ntmps27
  by_cases h1 : kd = 1
  · subst h1
    by_cases h2 : 0 ≤ way
    · by_cases h3 : way ≤ 4
      · obtain rfl : r = true := by rw [← hr]; simp; omega
        clear hr
        go_wp2_with fail
        go_ret
        exact ⟨rfl, rfl⟩
      · obtain rfl : r = false := by rw [← hr]; simp; omega
        clear hr
        go_wp2_with fail
        go_ret
        exact ⟨rfl, rfl⟩
    · obtain rfl : r = false := by rw [← hr]; simp; omega
      clear hr
      go_wp2_with fail
      go_ret
      exact ⟨rfl, rfl⟩
  · by_cases h2 : kd = 2
    · subst h2
      by_cases h3 : way = 5
      · subst h3
        obtain rfl : r = true := by rw [← hr]; simp
        clear hr
        go_wp2_with fail
        go_ret
        exact ⟨rfl, rfl⟩
      · have q : (way == 5) = false := by simp [h3]
        obtain rfl : r = false := by rw [← hr]; simp; omega
        clear hr
        go_wp2_with fail
        go_ret
        exact ⟨rfl, rfl⟩
    · obtain rfl : r = false := by rw [← hr]; simp; omega
      clear hr
      go_wp2_with fail
      go_ret
      exact ⟨rfl, rfl⟩
/-- A value handed over. -/
def vA (v : Int × Int × Tx) : Value := .agg (vc v).toArray
theorem refRight_any (v : Int × Int × Tx) (kd : Int) (w : World) : Calls Try.prog 13 #[vA v, .int .i64 kd] w fun e w' => e = .returned (.bool (rgt kd v)) ∧ Below w.heap.size w w' := by
  obtain ⟨r, hr⟩ : ∃ r, rgt kd v = r := ⟨_, rfl⟩
  obtain ⟨v0, v1, z⟩ := v
  rw [hr]
  unfold rgt at hr
  have hv : vA (v0, v1, z) = .agg #[.int .i64 v0, .int .i64 v1, .string ⟨z.toArray⟩] := rfl
  rw [hv]
  clear hv
  go_enter Try.func13, Try.ntmps13
  have hB : Below w.heap.size w (w.alloc (.cells #[.int .i64 v0, .int .i64 v1, .string ⟨z.toArray⟩] 23)) := (Below.refl _ _).alloc (Nat.le_refl _) _
  have qz : z = [] ∧ z.isEmpty = true ∨ z ≠ [] ∧ z.isEmpty = false := by cases z <;> simp
  by_cases h0 : v0 = 0
  · subst h0
    by_cases h1 : v1 = 0
    · subst h1
      rcases qz with ⟨hz, q⟩ | ⟨hz, q⟩
      · obtain rfl : r = true := by rw [← hr]; simp [hz]
        clear hr hz
        go_wp2_with fail
        go_ret
        exact ⟨rfl, hB⟩
      · obtain rfl : r = false := by rw [← hr]; simp [hz]
        clear hr hz
        go_wp2_with fail
        go_ret
        exact ⟨rfl, hB⟩
    · obtain rfl : r = false := by rw [← hr]; simp [h1]
      clear hr qz
      go_wp2_with fail
      go_ret
      exact ⟨rfl, hB⟩
  · by_cases hk : v0 = kd
    · subst hk
      by_cases h1 : v0 = 1
      · subst h1
        rcases qz with ⟨hz, q⟩ | ⟨hz, q⟩
        · obtain rfl : r = true := by rw [← hr]; simp [hz]
          clear hr hz
          go_wp2_with fail
          go_ret
          exact ⟨rfl, hB⟩
        · obtain rfl : r = false := by rw [← hr]; simp [hz]
          clear hr hz
          go_wp2_with fail
          go_ret
          exact ⟨rfl, hB⟩
      · by_cases h2 : v0 = 2
        · subst h2
          by_cases h3 : v1 = 0
          · subst h3
            obtain rfl : r = true := by rw [← hr]; simp
            clear hr qz
            go_wp2_with fail
            go_ret
            exact ⟨rfl, hB⟩
          · have q : (v1 == 0) = false := by simp [h3]
            obtain rfl : r = false := by rw [← hr]; simp [h3]
            clear hr qz
            go_wp2_with fail
            go_ret
            exact ⟨rfl, hB⟩
        · obtain rfl : r = false := by rw [← hr]; simp [h0, h1, h2]
          clear hr qz
          go_wp2_with fail
          go_ret
          exact ⟨rfl, hB⟩
    · obtain rfl : r = false := by rw [← hr]; simp [h0, hk]
      clear hr qz
      go_wp2_with fail
      go_ret
      exact ⟨rfl, hB⟩
end Go.Proofs.Ytieknhhhcjdbnaa
