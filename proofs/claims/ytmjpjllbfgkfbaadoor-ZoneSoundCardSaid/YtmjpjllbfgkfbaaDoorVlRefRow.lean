/- Contract of the document's Row: what is wrong with a row of a schema. Nothing that was there changes. -/
import Derived.Deep.QuietTactic
import Derived.BigQuiet
import Derived.BigGuard
import Derived.Lib.QuietBelow
import Derived.Test.YtmjpjllbfgkfbaaDoorJ5
import Derived.Test.YtmjpjllbfgkfbaaDoorJ6
import Derived.Test.YtmjpjllbfgkfbaaDoorJ3
namespace Go.Proofs.YtmjpjllbfgkfbaaDoor
open Go.RowKit
set_option linter.unusedVariables false
set_option linter.unusedSimpArgs false
set_option maxRecDepth 100000

set_option maxHeartbeats 2000000 in
theorem refRow_any (A A' : Option Addr) (n c n' c' : Nat) (s : List Cl) (row : List Vl) (w : World) (hs : Reads w w.heap.size 3 A n (cls s)) (hr : Reads w w.heap.size 3 A' n' (vs row)) (hn : n ≤ 140737488355328) (hn' : n' ≤ 9223372036854775807) :
    Calls Tryd.prog 8 #[.slice A n c, .slice A' n' c'] w fun e w' => e = .returned (.int .i64 (rwE s row)) ∧ Below w.heap.size w w' := by
  have e1 : s.length = n := by have := hs.1; rw [cls_length] at this; omega
  have e2 : row.length = n' := by have := hr.1; rw [vs_length] at this; omega
  obtain ⟨R, hR⟩ : ∃ R, rwE s row = R := ⟨_, rfl⟩
  rw [hR]
  unfold rwE at hR
  by_cases hne : n' = n
  · subst hne
    rw [if_neg (by omega)] at hR
    have HQ0 : Hid (colsE (s.drop 0) (row.drop 0) = R) := Lib.hid (by simpa using hR)
    have HE1 := Lib.hid e1; have HE2 := Lib.hid e2
    clear e1 e2 hR
    go_enter Tryd.func8, Tryd.ntmps8
    go_wp2_with fail
    go_loopw [5] (fun i wr => ∃ k : Nat, k ≤ n' ∧ i = .int .i64 (k : Int) ∧ Hid (colsE (s.drop k) (row.drop k) = R) ∧ Below w.heap.size w wr) (fun i _ => n' - (intOf i).toNat)
    case atStart => exact ⟨0, Nat.zero_le _, rfl, HQ0, Below.refl _ _⟩
    case round =>
      clear HQ0
      obtain ⟨k, hk, rfl, HQ, hb⟩ := hrel
      by_cases hlt : k < n'
      · obtain ⟨⟨kd, nu, wy⟩, hc⟩ : ∃ v, s[k]? = some v := ⟨_, List.getElem?_eq_getElem (by rw [HE1.out]; omega)⟩
        obtain ⟨⟨v0, v1, z⟩, hv⟩ : ∃ v, row[k]? = some v := ⟨_, List.getElem?_eq_getElem (by rw [HE2.out]; omega)⟩
        obtain ⟨b, o, rfl, hb0, y0, y1, y2⟩ := (hs.below hb).col hc
        obtain ⟨b', o', rfl, hb0', x0, x1, x2⟩ := (hr.below hb).val hv
        have k0 := cell_regrown x0; have k1 := cell_regrown x1; have k2 := cell_regrown x2
        have j0 := cell_regrown y0; have j1 := cell_regrown y1
        have hstep := HQ.out
        rw [colsE_step hc hv] at hstep
        have hzs : (⟨z.toArray⟩ : ByteArray).size = z.length := by simp [ByteArray.size]
        have hy : Yields wr.heap.size wr 12 #[vA (v0, v1, z), .int .i64 kd] (.bool (rgt kd (v0, v1, z))) := fun V hbV => (refRight_any (v0, v1, z) kd V).mono fun e w' ⟨he, hb'⟩ => ⟨he, hbV.trans (hb'.mono hbV.size)⟩
        rw [show vA (v0, v1, z) = .agg #[.int .i64 v0, .int .i64 v1, .string ⟨z.toArray⟩] from rfl] at hy
        obtain ⟨g, hg⟩ : ∃ g, rgt kd (v0, v1, z) = g := ⟨_, rfl⟩
        rw [hg] at hy
        have c11 := colE_11 (c := (kd, nu, wy)) (v := (v0, v1, z))
        have c12 := colE_12 (c := (kd, nu, wy)) (v := (v0, v1, z))
        have c00 := colE_0 (c := (kd, nu, wy)) (v := (v0, v1, z))
        simp only [hg] at c11 c12 c00
        obtain ⟨X, hX⟩ : ∃ X, colE (kd, nu, wy) (v0, v1, z) = X := ⟨_, rfl⟩
        rw [hX] at hstep c11 c12 c00
        have HY := Lib.hid hy
        clear hc hv hg hy HQ y2 hX
        cases g with
        | false =>
          have HR : Hid (R = 11) := Lib.hid (by rw [← hstep, c11 (.inl rfl), if_pos (by decide)])
          clear hstep c11 c12 c00
          go_wp2_with fail
          refine wp_region_quiet_below (by kernel_rfl) (by kernel_rfl) ?_
          repeat (go_big_quiet_step (first | (go_at_call 12; exact HY.out.quiet _ _)))
          refine wpQuiet_nil ?_
          intro _ hw'
          obtain ⟨p, hw''⟩ := hw'
          subst hw''
          have hbp := hb.trans ((below_regrown wr p.d p.os).mono hb.size)
          have cz := k2 p.d p.os
          go_wp2_with fail
          go_ret
          exact ⟨by rw [HR.out]; rfl, hbp⟩
        | true =>
          by_cases hv0 : v0 = 0
          · subst hv0
            cases nu with
            | false =>
              have HR : Hid (R = 11) := Lib.hid (by rw [← hstep, c11 (.inr ⟨rfl, rfl⟩), if_pos (by decide)])
              clear hstep c11 c12 c00
              go_wp2_with fail
              refine wp_region_quiet_below (by kernel_rfl) (by kernel_rfl) ?_
              repeat (go_big_quiet_step (first | (go_at_call 12; exact HY.out.quiet _ _)))
              refine wpQuiet_nil ?_
              intro _ hw'
              obtain ⟨p, hw''⟩ := hw'
              subst hw''
              have hbp := hb.trans ((below_regrown wr p.d p.os).mono hb.size)
              have cz := k2 p.d p.os
              go_wp2_with fail
              go_ret
              exact ⟨by rw [HR.out]; rfl, hbp⟩
            | true =>
              have h12 : 65536 < z.length → R = 12 := fun h => by rw [← hstep, c12 (by simp) h, if_pos (by decide)]
              have h0 : ¬ 65536 < z.length → colsE (s.drop (k + 1)) (row.drop (k + 1)) = R := fun h => by rw [← hstep, c00 (by simp) h, if_neg (by decide)]
              clear hstep c11 c12 c00
              by_cases hzl : 65536 < z.length
              · have HR := Lib.hid (h12 hzl)
                have d1 : decide ((65536 : Int) < (z.length : Int)) = true := by simp; omega
                clear h12 h0 hzl
                go_wp2_with fail
                refine wp_region_quiet_below (by kernel_rfl) (by kernel_rfl) ?_
                repeat (go_big_quiet_step (first | (go_at_call 12; exact HY.out.quiet _ _)))
                refine wpQuiet_nil ?_
                intro _ hw'
                obtain ⟨p, hw''⟩ := hw'
                subst hw''
                have hbp := hb.trans ((below_regrown wr p.d p.os).mono hb.size)
                have cz := k2 p.d p.os
                go_wp2_with fail
                go_ret
                exact ⟨by rw [HR.out]; rfl, hbp⟩
              · have HN := Lib.hid (h0 hzl)
                have d1 : decide ((65536 : Int) < (z.length : Int)) = false := by simp; omega
                clear h12 h0 hzl
                go_wp2_with fail
                refine wp_region_quiet_below (by kernel_rfl) (by kernel_rfl) ?_
                repeat (go_big_quiet_step (first | (go_at_call 12; exact HY.out.quiet _ _)))
                refine wpQuiet_nil ?_
                intro _ hw'
                obtain ⟨p, hw''⟩ := hw'
                subst hw''
                have hbp := hb.trans ((below_regrown wr p.d p.os).mono hb.size)
                have cz := k2 p.d p.os
                go_wp2_with fail
                go_round
                case rel => exact ⟨k + 1, by omega, by go_num, HN, hbp⟩
                case measure => simp [intOf]; omega
          · have q : (v0 == 0) = false := by simp [hv0]
            have h12 : 65536 < z.length → R = 12 := fun h => by rw [← hstep, c12 (by simp [hv0]) h, if_pos (by decide)]
            have h0 : ¬ 65536 < z.length → colsE (s.drop (k + 1)) (row.drop (k + 1)) = R := fun h => by rw [← hstep, c00 (by simp [hv0]) h, if_neg (by decide)]
            clear hstep hv0 c11 c12 c00
            by_cases hzl : 65536 < z.length
            · have HR := Lib.hid (h12 hzl)
              have d1 : decide ((65536 : Int) < (z.length : Int)) = true := by simp; omega
              clear h12 h0 hzl
              go_wp2_with fail
              refine wp_region_quiet_below (by kernel_rfl) (by kernel_rfl) ?_
              repeat (go_big_quiet_step (first | (go_at_call 12; exact HY.out.quiet _ _)))
              refine wpQuiet_nil ?_
              intro _ hw'
              obtain ⟨p, hw''⟩ := hw'
              subst hw''
              have hbp := hb.trans ((below_regrown wr p.d p.os).mono hb.size)
              have cz := k2 p.d p.os
              go_wp2_with fail
              go_ret
              exact ⟨by rw [HR.out]; rfl, hbp⟩
            · have HN := Lib.hid (h0 hzl)
              have d1 : decide ((65536 : Int) < (z.length : Int)) = false := by simp; omega
              clear h12 h0 hzl
              go_wp2_with fail
              refine wp_region_quiet_below (by kernel_rfl) (by kernel_rfl) ?_
              repeat (go_big_quiet_step (first | (go_at_call 12; exact HY.out.quiet _ _)))
              refine wpQuiet_nil ?_
              intro _ hw'
              obtain ⟨p, hw''⟩ := hw'
              subst hw''
              have hbp := hb.trans ((below_regrown wr p.d p.os).mono hb.size)
              have cz := k2 p.d p.os
              go_wp2_with fail
              go_round
              case rel => exact ⟨k + 1, by omega, by go_num, HN, hbp⟩
              case measure => simp [intOf]; omega
      · obtain rfl : k = n' := by omega
        have HR : Hid (R = 0) := Lib.hid (by
          have h1 : s.drop k = [] := List.drop_eq_nil_of_le (by rw [HE1.out]; exact Nat.le_refl _)
          have := HQ.out
          rw [h1] at this
          rw [← this]; rfl)
        clear HQ
        go_wp2_with fail
        go_ret
        exact ⟨by rw [HR.out]; rfl, hb⟩
  · rw [if_pos (by omega)] at hR
    subst hR
    have q : ((n' : Int) != (n : Int)) = true := by simp; omega
    clear e1 e2 hne
    go_enter Tryd.func8, Tryd.ntmps8
    go_wp2_with fail
    go_ret
    exact ⟨rfl, Below.refl _ _⟩
end Go.Proofs.YtmjpjllbfgkfbaaDoor
