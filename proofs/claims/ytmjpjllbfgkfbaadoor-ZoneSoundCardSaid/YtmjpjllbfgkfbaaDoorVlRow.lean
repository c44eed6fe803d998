/- Contracts of package value's mayStand and Row: what is wrong with a row of a schema. Nothing that was there changes. -/
import Derived.Deep.QuietTactic
import Derived.BigQuiet
import Derived.BigGuard
import Derived.Lib.QuietBelow
import Derived.Test.YtmjpjllbfgkfbaaDoorJ5
import Derived.Test.YtmjpjllbfgkfbaaDoorJ3
namespace Go.Proofs.YtmjpjllbfgkfbaaDoor
open Go.RowKit
set_option linter.unusedVariables false
set_option linter.unusedSimpArgs false
set_option maxRecDepth 100000

/-- May the value stand in the column? -/
def mayB (c : Cl) (v : Vl) : Bool := rgt c.1 v && !(decide (v.1 = 0) && !c.2.1)
theorem mayB_yes {c : Cl} {v : Vl} (h : mayB c v = true) : ¬ (rgt c.1 v = false ∨ v.1 = 0 ∧ c.2.1 = false) := by
  unfold mayB at h
  rw [Bool.and_eq_true] at h
  rintro (e | ⟨e1, e2⟩)
  · rw [e] at h; simp at h
  · rw [e1, e2] at h; simp at h
theorem mayB_no {c : Cl} {v : Vl} (h : mayB c v = false) : rgt c.1 v = false ∨ v.1 = 0 ∧ c.2.1 = false := by
  unfold mayB at h
  rw [Bool.and_eq_false_iff] at h
  rcases h with h | h
  · exact .inl h
  · right; simpa using h
/-- A column handed over. -/
def cW (c : Cl) : Value := .agg #[.int .i64 c.1, .bool c.2.1, .int .i64 c.2.2]
set_option maxHeartbeats 1000000 in
theorem mayStand_any (c : Cl) (v : Vl) (w : World) : Calls Tryd.prog 27 #[vW v, cW c] w fun e w' => e = .returned (.bool (mayB c v)) ∧ Below w.heap.size w w' := by
  obtain ⟨r, hr⟩ : ∃ r, mayB c v = r := ⟨_, rfl⟩
  obtain ⟨v0, v1, z⟩ := v
  obtain ⟨kd, nu, wy⟩ := c
  rw [hr]
  unfold mayB rgt at hr
  simp only at hr
  rw [show vW (v0, v1, z) = .agg #[.int .i64 v0, .int .i64 v1, .string ⟨z.toArray⟩] from rfl, show cW (kd, nu, wy) = .agg #[.int .i64 kd, .bool nu, .int .i64 wy] from rfl]
  have hB : Below w.heap.size w ((w.alloc (.cells #[.int .i64 v0, .int .i64 v1, .string ⟨z.toArray⟩] 37)).alloc (.cells #[.int .i64 kd, .bool nu, .int .i64 wy] 43)) :=
    ((Below.refl _ _).alloc (Nat.le_refl _) _).alloc (by simp) _
  have qz : z = [] ∧ z.isEmpty = true ∨ z ≠ [] ∧ z.isEmpty = false := by cases z <;> simp
  go_enter Tryd.func27, Tryd.ntmps27
  by_cases h0 : v0 = 0
  · subst h0
    cases nu with
    | false =>
      obtain rfl : r = false := by rw [← hr]; simp
      clear hr qz
      go_wp2_with fail
      go_ret
      exact ⟨rfl, hB⟩
    | true =>
      by_cases h1 : v1 = 0
      · subst h1
        rcases qz with ⟨hz, q⟩ | ⟨hz, q⟩
        · obtain rfl : r = true := by rw [← hr]; simp [hz]
          clear hr hz
          go_wp2_with fail
          go_ret
          exact ⟨rfl, hB⟩
        · obtain rfl : r = false := by rw [← hr]; simp [hz]
          clear hr hz
          go_wp2_with fail
          go_ret
          exact ⟨rfl, hB⟩
      · have q : (v1 == 0) = false := by simp [h1]
        obtain rfl : r = false := by rw [← hr]; simp [h1]
        clear hr qz
        go_wp2_with fail
        go_ret
        exact ⟨rfl, hB⟩
  · have q0 : (v0 == 0) = false := by simp [h0]
    by_cases h1 : v0 = 1
    · subst h1
      by_cases hk : kd = 1
      · subst hk
        rcases qz with ⟨hz, q⟩ | ⟨hz, q⟩
        · obtain rfl : r = true := by rw [← hr]; simp [hz]
          clear hr hz
          go_wp2_with fail
          go_ret
          exact ⟨rfl, hB⟩
        · obtain rfl : r = false := by rw [← hr]; simp [hz]
          clear hr hz
          go_wp2_with fail
          go_ret
          exact ⟨rfl, hB⟩
      · have qk : (kd == 1) = false := by simp [hk]
        obtain rfl : r = false := by rw [← hr]; simp; omega
        clear hr qz hk
        go_wp2_with fail
        go_ret
        exact ⟨rfl, hB⟩
    · have q1 : (v0 == 1) = false := by simp [h1]
      by_cases h2 : v0 = 2
      · subst h2
        by_cases hk : kd = 2
        · subst hk
          by_cases h3 : v1 = 0
          · subst h3
            obtain rfl : r = true := by rw [← hr]; simp
            clear hr qz
            go_wp2_with fail
            go_ret
            exact ⟨rfl, hB⟩
          · have q : (v1 == 0) = false := by simp [h3]
            obtain rfl : r = false := by rw [← hr]; simp [h3]
            clear hr qz
            go_wp2_with fail
            go_ret
            exact ⟨rfl, hB⟩
        · have qk : (kd == 2) = false := by simp [hk]
          obtain rfl : r = false := by rw [← hr]; simp; omega
          clear hr qz hk
          go_wp2_with fail
          go_ret
          exact ⟨rfl, hB⟩
      · have q2 : (v0 == 2) = false := by simp [h2]
        obtain rfl : r = false := by rw [← hr]; simp [h0]; omega
        clear hr qz h0 h1 h2
        go_wp2_with fail
        go_ret
        exact ⟨rfl, hB⟩
set_option maxHeartbeats 2000000 in
theorem rowV_any (A A' : Option Addr) (n c n' c' : Nat) (s : List Cl) (row : List Vl) (w : World) (hs : Reads w w.heap.size 3 A n (cls s)) (hr : Reads w w.heap.size 3 A' n' (vs row)) (hn : n ≤ 140737488355328) (hn' : n' ≤ 140737488355328) :
    Calls Tryd.prog 20 #[.slice A n c, .slice A' n' c'] w fun e w' => e = .returned (.int .i64 (rwE s row)) ∧ Below w.heap.size w w' := by
  have e1 : s.length = n := by have := hs.1; rw [cls_length] at this; omega
  have e2 : row.length = n' := by have := hr.1; rw [vs_length] at this; omega
  obtain ⟨R, hR⟩ : ∃ R, rwE s row = R := ⟨_, rfl⟩
  rw [hR]
  unfold rwE at hR
  by_cases hne : n' = n
  · subst hne
    rw [if_neg (by omega)] at hR
    have HQ0 : Hid (colsE (s.drop 0) (row.drop 0) = R) := Lib.hid (by simpa using hR)
    have HE1 := Lib.hid e1; have HE2 := Lib.hid e2
    clear e1 e2 hR
    go_enter Tryd.func20, Tryd.ntmps20
    go_wp2_with fail
    go_loopw [5, 13] (fun _ i wr => ∃ k : Nat, k ≤ n' ∧ i = .int .i64 (k : Int) ∧ Hid (colsE (s.drop k) (row.drop k) = R) ∧ Below w.heap.size w wr) (fun _ i _ => n' - (intOf i).toNat)
    case atStart => exact ⟨0, Nat.zero_le _, rfl, HQ0, Below.refl _ _⟩
    case round =>
      clear HQ0
      obtain ⟨k, hk, rfl, HQ, hb⟩ := hrel
      by_cases hlt : k < n'
      · obtain ⟨⟨kd, nu, wy⟩, hc⟩ : ∃ v, s[k]? = some v := ⟨_, List.getElem?_eq_getElem (by rw [HE1.out]; omega)⟩
        obtain ⟨⟨v0, v1, z⟩, hv⟩ : ∃ v, row[k]? = some v := ⟨_, List.getElem?_eq_getElem (by rw [HE2.out]; omega)⟩
        obtain ⟨b, o, rfl, hb0, y0, y1, y2⟩ := (hs.below hb).col hc
        obtain ⟨b', o', rfl, hb0', x0, x1, x2⟩ := (hr.below hb).val hv
        have k0 := cell_regrown x0; have k1 := cell_regrown x1; have k2 := cell_regrown x2
        have j0 := cell_regrown y0; have j1 := cell_regrown y1; have j2 := cell_regrown y2
        have hstep := HQ.out
        rw [colsE_step hc hv] at hstep
        have hzs : (⟨z.toArray⟩ : ByteArray).size = z.length := by simp [ByteArray.size]
        have hy : Yields wr.heap.size wr 27 #[vW (v0, v1, z), cW (kd, nu, wy)] (.bool (mayB (kd, nu, wy) (v0, v1, z))) := fun V hbV => (mayStand_any (kd, nu, wy) (v0, v1, z) V).mono fun e w' ⟨he, hb'⟩ => ⟨he, hbV.trans (hb'.mono hbV.size)⟩
        rw [show vW (v0, v1, z) = .agg #[.int .i64 v0, .int .i64 v1, .string ⟨z.toArray⟩] from rfl, show cW (kd, nu, wy) = .agg #[.int .i64 kd, .bool nu, .int .i64 wy] from rfl] at hy
        obtain ⟨g, hg⟩ : ∃ g, mayB (kd, nu, wy) (v0, v1, z) = g := ⟨_, rfl⟩
        rw [hg] at hy
        have c11 := fun h => colE_11 (c := (kd, nu, wy)) (v := (v0, v1, z)) (mayB_no h)
        have c12 := fun h => colE_12 (c := (kd, nu, wy)) (v := (v0, v1, z)) (mayB_yes h)
        have c00 := fun h => colE_0 (c := (kd, nu, wy)) (v := (v0, v1, z)) (mayB_yes h)
        rw [hg] at c11 c12 c00
        obtain ⟨X, hX⟩ : ∃ X, colE (kd, nu, wy) (v0, v1, z) = X := ⟨_, rfl⟩
        rw [hX] at hstep c11 c12 c00
        have HY := Lib.hid hy
        clear hc hv hg hy HQ hX
        cases g with
        | false =>
          have HR : Hid (R = 11) := Lib.hid (by rw [← hstep, c11 rfl, if_pos (by decide)])
          clear hstep c11 c12 c00
          go_wp2_with fail
          refine wp_region_quiet_below (by kernel_rfl) (by kernel_rfl) ?_
          repeat (go_big_quiet_step (first | (go_at_call 27; exact HY.out.quiet _ _)))
          refine wpQuiet_nil ?_
          intro _ hw'
          obtain ⟨p, hw''⟩ := hw'
          subst hw''
          have hbp := hb.trans ((below_regrown wr p.d p.os).mono hb.size)
          have cz := k2 p.d p.os
          go_wp2_with fail
          go_ret
          exact ⟨by rw [HR.out]; rfl, hbp⟩
        | true =>
          have h12 : 65536 < z.length → R = 12 := fun h => by rw [← hstep, c12 rfl h, if_pos (by decide)]
          have h0 : ¬ 65536 < z.length → colsE (s.drop (k + 1)) (row.drop (k + 1)) = R := fun h => by rw [← hstep, c00 rfl h, if_neg (by decide)]
          clear hstep c11 c12 c00
          by_cases hzl : 65536 < z.length
          · have HR := Lib.hid (h12 hzl)
            have d1 : decide ((65536 : Int) < (z.length : Int)) = true := by simp; omega
            clear h12 h0 hzl
            go_wp2_with fail
            refine wp_region_quiet_below (by kernel_rfl) (by kernel_rfl) ?_
            repeat (go_big_quiet_step (first | (go_at_call 27; exact HY.out.quiet _ _)))
            refine wpQuiet_nil ?_
            intro _ hw'
            obtain ⟨p, hw''⟩ := hw'
            subst hw''
            have hbp := hb.trans ((below_regrown wr p.d p.os).mono hb.size)
            have cz := k2 p.d p.os
            go_wp2_with fail
            go_ret
            exact ⟨by rw [HR.out]; rfl, hbp⟩
          · have HN := Lib.hid (h0 hzl)
            have d1 : decide ((65536 : Int) < (z.length : Int)) = false := by simp; omega
            clear h12 h0 hzl
            go_wp2_with fail
            refine wp_region_quiet_below (by kernel_rfl) (by kernel_rfl) ?_
            repeat (go_big_quiet_step (first | (go_at_call 27; exact HY.out.quiet _ _)))
            refine wpQuiet_nil ?_
            intro _ hw'
            obtain ⟨p, hw''⟩ := hw'
            subst hw''
            have hbp := hb.trans ((below_regrown wr p.d p.os).mono hb.size)
            have cz := k2 p.d p.os
            go_wp2_with fail
            go_round
            case rel => exact ⟨k + 1, by omega, by go_num, HN, hbp⟩
            case measure => simp [intOf]; omega
      · obtain rfl : k = n' := by omega
        have HR : Hid (R = 0) := Lib.hid (by
          have h1 : s.drop k = [] := List.drop_eq_nil_of_le (by rw [HE1.out]; exact Nat.le_refl _)
          have := HQ.out
          rw [h1] at this
          rw [← this]; rfl)
        clear HQ
        go_wp2_with fail
        go_ret
        exact ⟨by rw [HR.out]; rfl, hb⟩
  · rw [if_pos (by omega)] at hR
    subst hR
    have q : ((n' : Int) != (n : Int)) = true := by simp; omega
    clear e1 e2 hne
    go_enter Tryd.func20, Tryd.ntmps20
    go_wp2_with fail
    go_ret
    exact ⟨rfl, Below.refl _ _⟩
end Go.Proofs.YtmjpjllbfgkfbaaDoor
