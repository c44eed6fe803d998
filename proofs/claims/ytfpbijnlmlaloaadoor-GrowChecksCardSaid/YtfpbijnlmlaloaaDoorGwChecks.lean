/- The walk of the statement GrowChecks. -/
import Derived.Test.YtfpbijnlmlaloaaDoorGwAwake
import Derived.Test.YtfpbijnlmlaloaaDoorGwRefChk
namespace Go.Proofs.YtfpbijnlmlaloaaDoor
open Go.RowKit
set_option linter.unusedVariables false
set_option linter.unusedSimpArgs false
set_option maxRecDepth 100000

set_option maxHeartbeats 4000000 in
theorem checks20_any (m n : Int) (a b : List Nat) (ds : List (List Nat)) (A : Option Addr) (q c : Nat) (w : World) (hn0 : -9223372036854775808 ≤ n) (ha : a.length = 32) (hab : ∀ x ∈ a, x < 256) (hb : b.length = 32) (hq : ds.length = q) (hdg : Dg ds) (hat : HsAt w A ds) (hc : q ≤ c) (hq1 : q ≤ 9223372036854775807) (ht : ShTab w) :
    Calls Tryd.prog 4 #[.int .i64 m, .int .i64 n, .agg (bs a).toArray, .agg (bs b).toArray, .slice A q c] w fun e w' => e = .returned (.bool true) ∧ Below w.heap.size w w' := by
  obtain ⟨VD, hVD, hvz, hon, hvi⟩ := hash_ok a ha
  obtain ⟨VE, hVE, hez, heo, hei⟩ := hash_ok b hb
  have b1 := (Below.refl w.heap.size w).alloc (Nat.le_refl _) (.cells VD 33)
  have b2 := b1.alloc b1.size (.cells VE 33)
  have k1 := (Blk.new w 33 VD).alloc (.cells VE 33)
  have k2 := Blk.new (w.alloc (.cells VD 33)) 33 VE
  simp only [World.size_alloc] at k2
  obtain ⟨W0, hW0⟩ : ∃ W0, (w.alloc (.cells VD 33)).alloc (.cells VE 33) = W0 := ⟨_, rfl⟩
  rw [hW0] at b2 k1 k2
  rw [hVD, hVE]
  have HG1 : Hid (∀ w', (∃ p : Regrown, w' = Go.Sort.grow (redrawn W0 p.d) p.os) → w'.rangeAt w.heap.size 0 (bs a)) := Lib.hid (range_regrown (by rw [← hVD] at k1; exact k1.range))
  have HG2 : Hid (∀ w', (∃ p : Regrown, w' = Go.Sort.grow (redrawn W0 p.d) p.os) → w'.rangeAt (w.heap.size + 1) 0 (bs b)) := Lib.hid (range_regrown (by rw [← hVE] at k2; exact k2.range))
  have HB2 := Lib.hid b2
  have HI1 := Lib.hid (hash_size a ha); have HI2 := Lib.hid (hash_size b hb)
  have hat0 := hat.next b2
  have ht0 := ht.next b2
  obtain ⟨r, hr⟩ : ∃ r, checkD m n a b ds = r := ⟨_, rfl⟩
  have Y1 := Lib.hid (gwCheck_yields m n a b ds A q c W0 hn0 ha hab hb hq hdg hat0 hc hq1 ht0 VD VE hVD hVE r hr)
  have Y3 := Lib.hid (awake20_yields W0 ht0)
  have HVD := Lib.hid hVD; have HVE := Lib.hid hVE
  by_cases hbig : 60 < q
  · have hbI : (60 : Int) < (q : Int) := by omega
    clear b1 b2 k1 k2 hat ht hat0 ht0 hVD hVE hvz hon hvi hez heo hei ha hab hb hdg hq hr Y1
    go_enter Tryd.func4, Tryd.ntmps4
    go_upto_region 1 with fail
    refine wp_region_quiet_below (by kernel_rfl) (by kernel_rfl) ?_
    repeat (go_big_quiet_step (first | (go_at_call 7; with_reducible exact Y3.out.quiet _ _)))
    refine wpQuiet_nil ?_
    intro _ hw'
    obtain ⟨p, hw''⟩ := hw'
    subst hw''
    have HBE := Lib.hid (HB2.out.trans ((below_regrown W0 p.d p.os).mono HB2.out.size))
    go_wp2_with fail
    go_ret
    exact ⟨rfl, HBE.out⟩
  · have hbI : ¬ (60 : Int) < (q : Int) := by omega
    have Y2 : Hid (Yields W0.heap.size W0 13 #[.int .i64 m, .int .i64 n, .agg VD, .agg VE, .slice A q c] (.bool r)) := Lib.hid fun W hW => by
      have := refCheck20_any m n a b ds A q c W ha hab hb hq hdg (hat0.next hW) hc (by omega)
      rw [hVD, hVE, hr] at this
      exact this.mono fun e w' ⟨he, h⟩ => ⟨he, hW.trans (h.mono hW.size)⟩
    clear b1 b2 k1 k2 hat ht hat0 ht0 hVD hVE hvz hon hvi hez heo hei ha hab hb hdg hq hr
    cases r <;>
    · go_enter Tryd.func4, Tryd.ntmps4
      go_upto_region 1 with fail
      refine wp_region_quiet_below (by kernel_rfl) (by kernel_rfl) ?_
      repeat (first
        | (refine wpQuiet_load (by rfl) 33 (.tmp 7) rfl w.heap.size 0 rfl (bs a) VD HVD.out _ HG1.out Tryd.underlying33 rfl HI1.out ?_
           try simp only [Act.put, List.setIfInBounds_toArray, List.set_cons_zero, List.set_cons_succ])
        | (refine wpQuiet_load (by rfl) 33 (.tmp 8) rfl (w.heap.size + 1) 0 rfl (bs b) VE HVE.out _ HG2.out Tryd.underlying33 rfl HI2.out ?_
           try simp only [Act.put, List.setIfInBounds_toArray, List.set_cons_zero, List.set_cons_succ])
        | go_big_quiet_step (first
            | (go_at_call 12; with_reducible exact Y1.out.quiet _ _)
            | (go_at_call 13; with_reducible exact Y2.out.quiet _ _)
            | (go_at_call 7; with_reducible exact Y3.out.quiet _ _)))
      refine wpQuiet_nil ?_
      intro _ hw'
      obtain ⟨p, hw''⟩ := hw'
      subst hw''
      have HBE := Lib.hid (HB2.out.trans ((below_regrown W0 p.d p.os).mono HB2.out.size))
      go_wp2_with fail
      go_ret
      exact ⟨rfl, HBE.out⟩
end Go.Proofs.YtfpbijnlmlaloaaDoor
