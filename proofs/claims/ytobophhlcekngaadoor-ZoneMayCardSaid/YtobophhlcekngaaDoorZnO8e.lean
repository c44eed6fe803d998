/- Contract of the document's one of layer 17 at PBetween, where the tests are so (e). -/
import Derived.Test.YtobophhlcekngaaDoorZnOne
namespace Go.Proofs.YtobophhlcekngaaDoor
open Go.RowKit
set_option linter.unusedVariables false
set_option linter.unusedSimpArgs false
set_option maxRecDepth 100000

section
variable {col : Int} {A A' : Option Addr} {c n c' : Nat} {w : World}
set_option maxHeartbeats 8000000 in
theorem one8_e (a b : Vl) (nl : Int) (so : Bool) (mn mx : Vl) (hr : Reads w w.heap.size 3 A 2 (vs [a, b])) (hv1 : decide (cmpV a b ≤ 0) = true) (hv2 : decide (cmpV a mx ≤ 0) = true) (hv4 : decide (cmpV mn a < 0) = false) :
    Calls Tryd.prog 15 #[.agg #[.int .i64 8, .int .i64 col, .slice A 2 c, .slice A' n c'], zW (nl, so, mn, mx)] w fun e w' => e = .returned (.tuple #[.bool (oneZ 8 [a, b] (nl, so, mn, mx)).1, .bool (oneZ 8 [a, b] (nl, so, mn, mx)).2]) ∧ Below w.heap.size w w' := by
  rw [show oneZ 8 [a, b] (nl, so, mn, mx) = ((decide (cmpV a b ≤ 0) && decide (cmpV a mx ≤ 0)) && decide (0 ≤ cmpV b mn), decide (cmpV mn a < 0) || decide (0 < cmpV mx b)) from rfl]
  have H1 := Lib.hid fun (W : World) => cmp17_any a b W
  have H2 := Lib.hid fun (W : World) => cmp17_any a mx W
  have H3 := Lib.hid fun (W : World) => cmp17_any b mn W
  have H4 := Lib.hid fun (W : World) => cmp17_any mn a W
  have H5 := Lib.hid fun (W : World) => cmp17_any mx b W
  obtain ⟨j1, hj1⟩ : ∃ q, cmpV a b = q := ⟨_, rfl⟩
  rw [hj1] at H1 hv1 ⊢
  obtain ⟨j2, hj2⟩ : ∃ q, cmpV a mx = q := ⟨_, rfl⟩
  rw [hj2] at H2 hv2 ⊢
  obtain ⟨j3, hj3⟩ : ∃ q, cmpV b mn = q := ⟨_, rfl⟩
  rw [hj3] at H3 ⊢
  obtain ⟨j4, hj4⟩ : ∃ q, cmpV mn a = q := ⟨_, rfl⟩
  rw [hj4] at H4 hv4 ⊢
  obtain ⟨j5, hj5⟩ : ∃ q, cmpV mx b = q := ⟨_, rfl⟩
  rw [hj5] at H5 ⊢
  clear hj1 hj2 hj3 hj4 hj5
  obtain ⟨q1, hq1⟩ : ∃ q, decide (j1 ≤ 0) = q := ⟨_, rfl⟩
  obtain ⟨q2, hq2⟩ : ∃ q, decide (j2 ≤ 0) = q := ⟨_, rfl⟩
  obtain ⟨q3, hq3⟩ : ∃ q, decide (0 ≤ j3) = q := ⟨_, rfl⟩
  obtain ⟨q4, hq4⟩ : ∃ q, decide (j4 < 0) = q := ⟨_, rfl⟩
  obtain ⟨q5, hq5⟩ : ∃ q, decide (0 < j5) = q := ⟨_, rfl⟩
  rw [hq1, hq2, hq3, hq4, hq5]
  obtain rfl := hq1.symm.trans hv1
  obtain rfl := hq4.symm.trans hv4
  obtain rfl := hq2.symm.trans hv2
  clear hv1 hv4 hv2
  obtain ⟨a0, a1, za⟩ := a
  obtain ⟨b0, b1, zb⟩ := b
  obtain ⟨m0, m1, zm⟩ := mn
  obtain ⟨n0, n1, zn⟩ := mx
  simp only [vW, zW] at H1 H2 H3 H4 H5 ⊢
  obtain ⟨g, o, rfl, hb0, v0, v1, v2⟩ := hr.val (show ([(a0, a1, za), (b0, b1, zb)] : List Vl)[0]? = some (a0, a1, za) from rfl)
  obtain ⟨g', o', e, hb0', y0, y1, y2⟩ := hr.val (show ([(a0, a1, za), (b0, b1, zb)] : List Vl)[1]? = some (b0, b1, zb) from rfl)
  injection e with e
  injection e with e1 e2
  subst e1 e2
  rw [Nat.zero_mul, Nat.add_zero] at v0 v1 v2
  rw [Nat.one_mul] at y0 y1 y2
  clear hr
  have hB : Below w.heap.size w ((w.alloc (.cells #[.int .i64 8, .int .i64 col, .slice (some ⟨g, o, none⟩) 2 c, .slice A' n c'] 25)).alloc (.cells #[.int .i64 nl, .bool so, .int .i64 m0, .int .i64 m1, .string ⟨zm.toArray⟩, .int .i64 n0, .int .i64 n1, .string ⟨zn.toArray⟩] 37)) := ((Below.refl w.heap.size w).alloc (Nat.le_refl _) _).alloc (by simp) _
  have kP := (Blk.new w 25 #[.int .i64 8, .int .i64 col, .slice (some ⟨g, o, none⟩) 2 c, .slice A' n c']).alloc (.cells #[.int .i64 nl, .bool so, .int .i64 m0, .int .i64 m1, .string ⟨zm.toArray⟩, .int .i64 n0, .int .i64 n1, .string ⟨zn.toArray⟩] 37)
  have kZ := Blk.new (w.alloc (.cells #[.int .i64 8, .int .i64 col, .slice (some ⟨g, o, none⟩) 2 c, .slice A' n c'] 25)) 37 #[.int .i64 nl, .bool so, .int .i64 m0, .int .i64 m1, .string ⟨zm.toArray⟩, .int .i64 n0, .int .i64 n1, .string ⟨zn.toArray⟩]
  rw [World.size_alloc] at kZ
  have HB := Lib.hid hB; have HKP := Lib.hid kP; have HKZ := Lib.hid kZ
  clear hB kP kZ
  go_enter Tryd.func15, Tryd.ntmps15
  go_upto_region 27 with fail
  obtain ⟨W, hW⟩ : ∃ q, ((w.alloc (.cells #[.int .i64 8, .int .i64 col, .slice (some ⟨g, o, none⟩) 2 c, .slice A' n c'] 25)).alloc (.cells #[.int .i64 nl, .bool so, .int .i64 m0, .int .i64 m1, .string ⟨zm.toArray⟩, .int .i64 n0, .int .i64 n1, .string ⟨zn.toArray⟩] 37)) = q := ⟨_, rfl⟩
  rw [hW] at HB HKP HKZ ⊢
  clear hW
  obtain ⟨u0, u1, u2, t0, t1, t2⟩ : W.cell? ⟨g, o, none⟩ = some (.int .i64 a0) ∧ W.cell? ⟨g, o + 1, none⟩ = some (.int .i64 a1) ∧ W.cell? ⟨g, o + 2, none⟩ = some (.string ⟨za.toArray⟩) ∧ W.cell? ⟨g, o + 3, none⟩ = some (.int .i64 b0) ∧ W.cell? ⟨g, o + 3 + 1, none⟩ = some (.int .i64 b1) ∧ W.cell? ⟨g, o + 3 + 2, none⟩ = some (.string ⟨zb.toArray⟩) :=
    ⟨(HB.out.cell (p := ⟨g, o, none⟩) hb0).trans v0, (HB.out.cell (p := ⟨g, o + 1, none⟩) hb0).trans v1, (HB.out.cell (p := ⟨g, o + 2, none⟩) hb0).trans v2, (HB.out.cell (p := ⟨g, o + 3, none⟩) hb0).trans y0, (HB.out.cell (p := ⟨g, o + 3 + 1, none⟩) hb0).trans y1, (HB.out.cell (p := ⟨g, o + 3 + 2, none⟩) hb0).trans y2⟩
  obtain ⟨_, _, e2, _⟩ := blk4' HKP.out
  have heW := HKP.out.lt
  have hgW : g < W.heap.size := Nat.lt_of_lt_of_le hb0 HB.out.size
  have a1' : Below W.heap.size W (W.alloc (.cells #[.int .i64 0, .int .i64 0, .string ⟨#[]⟩] 34)) := (Below.refl _ _).alloc (Nat.le_refl _) _
  have a2' : Below W.heap.size W ((W.alloc (.cells #[.int .i64 0, .int .i64 0, .string ⟨#[]⟩] 34)).alloc (.cells #[.int .i64 0, .int .i64 0, .string ⟨#[]⟩] 34)) := a1'.alloc (by simp) _
  have u0a := (a1'.cell (p := ⟨g, o, none⟩) hgW).trans u0
  have u1a := (a1'.cell (p := ⟨g, o + 1, none⟩) hgW).trans u1
  have u2a := (a1'.cell (p := ⟨g, o + 2, none⟩) hgW).trans u2
  have t0a := (a1'.cell (p := ⟨g, o + 3, none⟩) hgW).trans t0
  have t1a := (a1'.cell (p := ⟨g, o + 3 + 1, none⟩) hgW).trans t1
  have t2a := (a1'.cell (p := ⟨g, o + 3 + 2, none⟩) hgW).trans t2
  have u0c := (a2'.cell (p := ⟨g, o, none⟩) hgW).trans u0
  have u1c := (a2'.cell (p := ⟨g, o + 1, none⟩) hgW).trans u1
  have u2c := (a2'.cell (p := ⟨g, o + 2, none⟩) hgW).trans u2
  have t0c := (a2'.cell (p := ⟨g, o + 3, none⟩) hgW).trans t0
  have t1c := (a2'.cell (p := ⟨g, o + 3 + 1, none⟩) hgW).trans t1
  have t2c := (a2'.cell (p := ⟨g, o + 3 + 2, none⟩) hgW).trans t2
  have e2a := (a1'.cell (p := ⟨w.heap.size, 2, none⟩) heW).trans e2
  have e2c := (a2'.cell (p := ⟨w.heap.size, 2, none⟩) heW).trans e2
  have k1 := (Blk.new W 34 #[.int .i64 0, .int .i64 0, .string ⟨#[]⟩]).alloc (.cells #[.int .i64 0, .int .i64 0, .string ⟨#[]⟩] 34)
  have k2 := Blk.new (W.alloc (.cells #[.int .i64 0, .int .i64 0, .string ⟨#[]⟩] 34)) 34 #[.int .i64 0, .int .i64 0, .string ⟨#[]⟩]
  rw [World.size_alloc] at k2
  obtain ⟨p0, p1, p2⟩ := blk3 k1
  obtain ⟨r0, r1, r2⟩ := blk3 k2
  have f0 := k1.frozen 0; have f1 := k1.frozen 1; have f2 := k1.frozen 2
  have f3 := k2.frozen 0; have f4 := k2.frozen 1; have f5 := k2.frozen 2
  have HA := Lib.hid a2'; have HK1 := Lib.hid k1; have HK2 := Lib.hid k2
  clear a1' a2' k1 k2 v0 v1 v2 y0 y1 y2
  go_region
  · clear u0a u1a u2a t0a t1a t2a u0c u1c u2c t0c t1c t2c u0 u1 u2 t0 t1 t2 p0 p1 p2 r0 r1 r2 f0 f1 f2 f3 f4 f5 e2 e2a e2c HA HK1 HK2
    have hbd : Below W.heap.size W (((W.alloc (.cells #[.int .i64 a0, .int .i64 a1, .string ⟨za.toArray⟩] 34)).alloc (.cells #[.int .i64 b0, .int .i64 b1, .string ⟨zb.toArray⟩] 34)).drew) := below_drew (((Below.refl W.heap.size W).alloc (Nat.le_refl _) _).alloc (by simp) _)
    have kA : Blk (((W.alloc (.cells #[.int .i64 a0, .int .i64 a1, .string ⟨za.toArray⟩] 34)).alloc (.cells #[.int .i64 b0, .int .i64 b1, .string ⟨zb.toArray⟩] 34)).drew) W.heap.size 34 #[.int .i64 a0, .int .i64 a1, .string ⟨za.toArray⟩] := ((Blk.new W 34 #[.int .i64 a0, .int .i64 a1, .string ⟨za.toArray⟩]).alloc (.cells #[.int .i64 b0, .int .i64 b1, .string ⟨zb.toArray⟩] 34)).drew
    have kB : Blk (((W.alloc (.cells #[.int .i64 a0, .int .i64 a1, .string ⟨za.toArray⟩] 34)).alloc (.cells #[.int .i64 b0, .int .i64 b1, .string ⟨zb.toArray⟩] 34)).drew) (W.heap.size + 1) 34 #[.int .i64 b0, .int .i64 b1, .string ⟨zb.toArray⟩] := by
      have := (Blk.new (W.alloc (.cells #[.int .i64 a0, .int .i64 a1, .string ⟨za.toArray⟩] 34)) 34 #[.int .i64 b0, .int .i64 b1, .string ⟨zb.toArray⟩]).drew
      rw [World.size_alloc] at this
      exact this
    obtain ⟨V2, hV2⟩ : ∃ q, ((W.alloc (.cells #[.int .i64 a0, .int .i64 a1, .string ⟨za.toArray⟩] 34)).alloc (.cells #[.int .i64 b0, .int .i64 b1, .string ⟨zb.toArray⟩] 34)).drew = q := ⟨_, rfl⟩
    rw [hV2] at hbd kA kB ⊢
    clear hV2
    have HZ2 := Lib.hid (HKZ.out.below hbd HKZ.out.lt); have hB2 := Lib.hid (HB.out.trans (hbd.mono HB.out.size)); have HKA := Lib.hid kA; have HKB := Lib.hid kB
    clear hbd kA kB HKZ HKP HB
    go_wp2_with fail
    obtain ⟨y0, y1, y2, y3, y4, y5, y6, y7⟩ := blk8 HZ2.out
    obtain ⟨z0, z1, z2⟩ := blk3 HKA.out
    obtain ⟨v0, v1, v2⟩ := blk3 HKB.out
    have t2 := cell_regrown y2; have t3 := cell_regrown y3; have t4 := cell_regrown y4; have t5 := cell_regrown y5; have t6 := cell_regrown y6; have t7 := cell_regrown y7
    have r0 := cell_regrown z0; have r1 := cell_regrown z1; have r2 := cell_regrown z2
    have p0 := cell_regrown v0; have p1 := cell_regrown v1; have p2 := cell_regrown v2
    have g1 : Hid (Yields V2.heap.size V2 24 #[.agg #[.int .i64 a0, .int .i64 a1, .string ⟨za.toArray⟩], .agg #[.int .i64 b0, .int .i64 b1, .string ⟨zb.toArray⟩]] (.int .i64 j1)) := Lib.hid fun V hbV => (H1.out V).mono fun e w' ⟨he, hb'⟩ => ⟨he, hbV.trans (hb'.mono hbV.size)⟩
    have g2 : Hid (Yields V2.heap.size V2 24 #[.agg #[.int .i64 a0, .int .i64 a1, .string ⟨za.toArray⟩], .agg #[.int .i64 n0, .int .i64 n1, .string ⟨zn.toArray⟩]] (.int .i64 j2)) := Lib.hid fun V hbV => (H2.out V).mono fun e w' ⟨he, hb'⟩ => ⟨he, hbV.trans (hb'.mono hbV.size)⟩
    have g3 : Hid (Yields V2.heap.size V2 24 #[.agg #[.int .i64 b0, .int .i64 b1, .string ⟨zb.toArray⟩], .agg #[.int .i64 m0, .int .i64 m1, .string ⟨zm.toArray⟩]] (.int .i64 j3)) := Lib.hid fun V hbV => (H3.out V).mono fun e w' ⟨he, hb'⟩ => ⟨he, hbV.trans (hb'.mono hbV.size)⟩
    have g4 : Hid (Yields V2.heap.size V2 24 #[.agg #[.int .i64 m0, .int .i64 m1, .string ⟨zm.toArray⟩], .agg #[.int .i64 a0, .int .i64 a1, .string ⟨za.toArray⟩]] (.int .i64 j4)) := Lib.hid fun V hbV => (H4.out V).mono fun e w' ⟨he, hb'⟩ => ⟨he, hbV.trans (hb'.mono hbV.size)⟩
    have g5 : Hid (Yields V2.heap.size V2 24 #[.agg #[.int .i64 n0, .int .i64 n1, .string ⟨zn.toArray⟩], .agg #[.int .i64 b0, .int .i64 b1, .string ⟨zb.toArray⟩]] (.int .i64 j5)) := Lib.hid fun V hbV => (H5.out V).mono fun e w' ⟨he, hb'⟩ => ⟨he, hbV.trans (hb'.mono hbV.size)⟩
    clear H1 H2 H3 H4 H5 y0 y1 y2 y3 y4 y5 y6 y7 z0 z1 z2 v0 v1 v2 HZ2 HKA HKB
    refine wp_region_quiet_below (by kernel_rfl) (by kernel_rfl) ?_
    repeat (go_big_quiet_step (first | (go_at_call 24; first | with_reducible exact g1.out.quiet _ _ | with_reducible exact g2.out.quiet _ _ | with_reducible exact g3.out.quiet _ _ | with_reducible exact g4.out.quiet _ _ | with_reducible exact g5.out.quiet _ _)))
    refine wpQuiet_nil ?_
    intro V hV
    have hbp : Below w.heap.size w V := by obtain ⟨pp, e⟩ := hV; subst e; exact hB2.out.trans ((below_regrown V2 pp.d pp.os).mono hB2.out.size)
    clear hV r0 r1 r2 t2 t3 t4 t5 t6 t7 p0 p1 p2 hB2 g1 g2 g3 g4 g5
    go_wp2_with fail
    go_ret2
    exact ⟨by first | rfl | simp, hbp⟩
  · clear u0a u1a u2a t0a t1a t2a u0c u1c u2c t0c t1c t2c u0 u1 u2 t0 t1 t2 p0 p1 p2 r0 r1 r2 f0 f1 f2 f3 f4 f5 e2 e2a e2c HA HK1 HK2
    have hbd : Below W.heap.size W (((W.alloc (.cells #[.int .i64 b0, .int .i64 b1, .string ⟨zb.toArray⟩] 34)).alloc (.cells #[.int .i64 a0, .int .i64 a1, .string ⟨za.toArray⟩] 34)).drew) := below_drew (((Below.refl W.heap.size W).alloc (Nat.le_refl _) _).alloc (by simp) _)
    have kB : Blk (((W.alloc (.cells #[.int .i64 b0, .int .i64 b1, .string ⟨zb.toArray⟩] 34)).alloc (.cells #[.int .i64 a0, .int .i64 a1, .string ⟨za.toArray⟩] 34)).drew) W.heap.size 34 #[.int .i64 b0, .int .i64 b1, .string ⟨zb.toArray⟩] := ((Blk.new W 34 #[.int .i64 b0, .int .i64 b1, .string ⟨zb.toArray⟩]).alloc (.cells #[.int .i64 a0, .int .i64 a1, .string ⟨za.toArray⟩] 34)).drew
    have kA : Blk (((W.alloc (.cells #[.int .i64 b0, .int .i64 b1, .string ⟨zb.toArray⟩] 34)).alloc (.cells #[.int .i64 a0, .int .i64 a1, .string ⟨za.toArray⟩] 34)).drew) (W.heap.size + 1) 34 #[.int .i64 a0, .int .i64 a1, .string ⟨za.toArray⟩] := by
      have := (Blk.new (W.alloc (.cells #[.int .i64 b0, .int .i64 b1, .string ⟨zb.toArray⟩] 34)) 34 #[.int .i64 a0, .int .i64 a1, .string ⟨za.toArray⟩]).drew
      rw [World.size_alloc] at this
      exact this
    obtain ⟨V2, hV2⟩ : ∃ q, ((W.alloc (.cells #[.int .i64 b0, .int .i64 b1, .string ⟨zb.toArray⟩] 34)).alloc (.cells #[.int .i64 a0, .int .i64 a1, .string ⟨za.toArray⟩] 34)).drew = q := ⟨_, rfl⟩
    rw [hV2] at hbd kA kB ⊢
    clear hV2
    have HZ2 := Lib.hid (HKZ.out.below hbd HKZ.out.lt); have hB2 := Lib.hid (HB.out.trans (hbd.mono HB.out.size)); have HKA := Lib.hid kA; have HKB := Lib.hid kB
    clear hbd kA kB HKZ HKP HB
    go_wp2_with fail
    obtain ⟨y0, y1, y2, y3, y4, y5, y6, y7⟩ := blk8 HZ2.out
    obtain ⟨z0, z1, z2⟩ := blk3 HKA.out
    obtain ⟨v0, v1, v2⟩ := blk3 HKB.out
    have t2 := cell_regrown y2; have t3 := cell_regrown y3; have t4 := cell_regrown y4; have t5 := cell_regrown y5; have t6 := cell_regrown y6; have t7 := cell_regrown y7
    have r0 := cell_regrown z0; have r1 := cell_regrown z1; have r2 := cell_regrown z2
    have p0 := cell_regrown v0; have p1 := cell_regrown v1; have p2 := cell_regrown v2
    have g1 : Hid (Yields V2.heap.size V2 24 #[.agg #[.int .i64 a0, .int .i64 a1, .string ⟨za.toArray⟩], .agg #[.int .i64 b0, .int .i64 b1, .string ⟨zb.toArray⟩]] (.int .i64 j1)) := Lib.hid fun V hbV => (H1.out V).mono fun e w' ⟨he, hb'⟩ => ⟨he, hbV.trans (hb'.mono hbV.size)⟩
    have g2 : Hid (Yields V2.heap.size V2 24 #[.agg #[.int .i64 a0, .int .i64 a1, .string ⟨za.toArray⟩], .agg #[.int .i64 n0, .int .i64 n1, .string ⟨zn.toArray⟩]] (.int .i64 j2)) := Lib.hid fun V hbV => (H2.out V).mono fun e w' ⟨he, hb'⟩ => ⟨he, hbV.trans (hb'.mono hbV.size)⟩
    have g3 : Hid (Yields V2.heap.size V2 24 #[.agg #[.int .i64 b0, .int .i64 b1, .string ⟨zb.toArray⟩], .agg #[.int .i64 m0, .int .i64 m1, .string ⟨zm.toArray⟩]] (.int .i64 j3)) := Lib.hid fun V hbV => (H3.out V).mono fun e w' ⟨he, hb'⟩ => ⟨he, hbV.trans (hb'.mono hbV.size)⟩
    have g4 : Hid (Yields V2.heap.size V2 24 #[.agg #[.int .i64 m0, .int .i64 m1, .string ⟨zm.toArray⟩], .agg #[.int .i64 a0, .int .i64 a1, .string ⟨za.toArray⟩]] (.int .i64 j4)) := Lib.hid fun V hbV => (H4.out V).mono fun e w' ⟨he, hb'⟩ => ⟨he, hbV.trans (hb'.mono hbV.size)⟩
    have g5 : Hid (Yields V2.heap.size V2 24 #[.agg #[.int .i64 n0, .int .i64 n1, .string ⟨zn.toArray⟩], .agg #[.int .i64 b0, .int .i64 b1, .string ⟨zb.toArray⟩]] (.int .i64 j5)) := Lib.hid fun V hbV => (H5.out V).mono fun e w' ⟨he, hb'⟩ => ⟨he, hbV.trans (hb'.mono hbV.size)⟩
    clear H1 H2 H3 H4 H5 y0 y1 y2 y3 y4 y5 y6 y7 z0 z1 z2 v0 v1 v2 HZ2 HKA HKB
    refine wp_region_quiet_below (by kernel_rfl) (by kernel_rfl) ?_
    repeat (go_big_quiet_step (first | (go_at_call 24; first | with_reducible exact g1.out.quiet _ _ | with_reducible exact g2.out.quiet _ _ | with_reducible exact g3.out.quiet _ _ | with_reducible exact g4.out.quiet _ _ | with_reducible exact g5.out.quiet _ _)))
    refine wpQuiet_nil ?_
    intro V hV
    have hbp : Below w.heap.size w V := by obtain ⟨pp, e⟩ := hV; subst e; exact hB2.out.trans ((below_regrown V2 pp.d pp.os).mono hB2.out.size)
    clear hV r0 r1 r2 t2 t3 t4 t5 t6 t7 p0 p1 p2 hB2 g1 g2 g3 g4 g5
    go_wp2_with fail
    go_ret2
    exact ⟨by first | rfl | simp, hbp⟩
end
end Go.Proofs.YtobophhlcekngaaDoor
