/- Contract of zone's ofOthers at PIn and PBetween: what may be of values that aren't nothing. -/
import Derived.Test.YtmjpjllbfgkfbaaDoorZwOf
namespace Go.Proofs.YtmjpjllbfgkfbaaDoor
open Go.RowKit
set_option linter.unusedVariables false
set_option linter.unusedSimpArgs false
set_option maxRecDepth 100000

section
variable {A : Option Addr} {c : Nat} {w : World}
set_option maxHeartbeats 4000000 in
theorem of_7 (vals : List Vl) (n : Nat) (mn mx : Vl) (hr : Reads w w.heap.size 3 A n (vs vals)) (hn : n ≤ 65536) :
    Calls Tryd.prog 50 #[.int .i64 7, .slice A n c, vW mn, vW mx] w fun e w' => e = .returned (.tuple #[.bool (ofZ 7 vals mn mx).1, .bool (ofZ 7 vals mn mx).2]) ∧ Below w.heap.size w w' := by
  rw [show ofZ 7 vals mn mx = (vals.any (wiZ mn mx), !vals.any (alZ mn mx)) from rfl]
  have H1 := Lib.hid fun (W : World) (h m g : Nat) (hb : Below w.heap.size w W) (hE : Ends W h m g mn mx) => containsWi A n c vals ((hr.below hb).more hb.size) hn hE
  have H2 := Lib.hid fun (W : World) (h m g : Nat) (hb : Below w.heap.size w W) (hE : Ends W h m g mn mx) => containsAl A n c vals ((hr.below hb).more hb.size) hn hE
  obtain ⟨q1, hq1⟩ : ∃ q, vals.any (wiZ mn mx) = q := ⟨_, rfl⟩
  obtain ⟨q2, hq2⟩ : ∃ q, vals.any (alZ mn mx) = q := ⟨_, rfl⟩
  rw [hq1] at H1 ⊢
  rw [hq2] at H2 ⊢
  clear hq1 hq2 hr
  obtain ⟨m0, m1, zm⟩ := mn
  obtain ⟨n0, n1, zn⟩ := mx
  simp only [vW] at H1 H2 ⊢
  have hmf := hmfP
  obtain ⟨hE, hB⟩ := ends_mem w m0 m1 n0 n1 zm zn
  have HE := Lib.hid hE; have HB := Lib.hid hB
  clear hE hB
  go_enter Tryd.func50, Tryd.ntmps50
  go_upto_region 18 with fail
  obtain ⟨W, hW⟩ : ∃ q, (((w.alloc (.cells #[.int .i64 m0, .int .i64 m1, .string ⟨zm.toArray⟩] 37)).alloc (.cells #[.int .i64 n0, .int .i64 n1, .string ⟨zn.toArray⟩] 37)).alloc (.cells #[.func (.func 51) #[] #[]] 101)) = q := ⟨_, rfl⟩
  rw [hW] at HE HB ⊢
  clear hW
  go_wp2_with fail
  refine (H1.out _ _ _ _ HB.out HE.out).mono ?_
  rintro e w1 ⟨rfl, hb1⟩
  have hE1 := Lib.hid (HE.out.next hb1); have hB1 := Lib.hid (HB.out.trans (hb1.mono HB.out.size))
  clear HE HB hb1
  go_wp2_with fail
  refine (H2.out _ _ _ _ hB1.out hE1.out).mono ?_
  rintro e w2 ⟨rfl, hb2⟩
  go_wp2_with fail
  go_ret2
  exact ⟨by first | rfl | simp, hB1.out.trans (hb2.mono hB1.out.size)⟩
set_option maxHeartbeats 8000000 in
theorem of_8 (a b mn mx : Vl) (hr : Reads w w.heap.size 3 A 2 (vs [a, b])) :
    Calls Tryd.prog 50 #[.int .i64 8, .slice A 2 c, vW mn, vW mx] w fun e w' => e = .returned (.tuple #[.bool (ofZ 8 [a, b] mn mx).1, .bool (ofZ 8 [a, b] mn mx).2]) ∧ Below w.heap.size w w' := by
  rw [show ofZ 8 [a, b] mn mx = ((!ahV b a && !ahV mx a) && !ahV b mn, ahV mn a || ahV b mx) from rfl]
  have H1 := Lib.hid fun (W : World) => ahead_any b a W
  have H2 := Lib.hid fun (W : World) => ahead_any mx a W
  have H3 := Lib.hid fun (W : World) => ahead_any b mn W
  have H4 := Lib.hid fun (W : World) => ahead_any mn a W
  have H5 := Lib.hid fun (W : World) => ahead_any b mx W
  obtain ⟨q1, hq1⟩ : ∃ q, ahV b a = q := ⟨_, rfl⟩
  obtain ⟨q2, hq2⟩ : ∃ q, ahV mx a = q := ⟨_, rfl⟩
  obtain ⟨q3, hq3⟩ : ∃ q, ahV b mn = q := ⟨_, rfl⟩
  obtain ⟨q4, hq4⟩ : ∃ q, ahV mn a = q := ⟨_, rfl⟩
  obtain ⟨q5, hq5⟩ : ∃ q, ahV b mx = q := ⟨_, rfl⟩
  rw [hq1] at H1 ⊢
  rw [hq2] at H2 ⊢
  rw [hq3] at H3 ⊢
  rw [hq4] at H4 ⊢
  rw [hq5] at H5 ⊢
  clear hq1 hq2 hq3 hq4 hq5
  obtain ⟨a0, a1, za⟩ := a
  obtain ⟨b0, b1, zb⟩ := b
  obtain ⟨m0, m1, zm⟩ := mn
  obtain ⟨n0, n1, zn⟩ := mx
  simp only [vW] at H1 H2 H3 H4 H5 ⊢
  obtain ⟨g, o, rfl, hb0, v0, v1, v2⟩ := hr.val (show ([(a0, a1, za), (b0, b1, zb)] : List Vl)[0]? = some (a0, a1, za) from rfl)
  obtain ⟨g', o', e, hb0', y0, y1, y2⟩ := hr.val (show ([(a0, a1, za), (b0, b1, zb)] : List Vl)[1]? = some (b0, b1, zb) from rfl)
  injection e with e
  injection e with e1 e2
  subst e1 e2
  rw [Nat.zero_mul, Nat.add_zero] at v0 v1 v2
  rw [Nat.one_mul] at y0 y1 y2
  clear hr
  have hmf := hmfP
  obtain ⟨hE, hB⟩ := ends_mem w m0 m1 n0 n1 zm zn
  have HE := Lib.hid hE; have HB := Lib.hid hB
  clear hE hB
  go_enter Tryd.func50, Tryd.ntmps50
  go_upto_region 19 with fail
  obtain ⟨W, hW⟩ : ∃ q, (((w.alloc (.cells #[.int .i64 m0, .int .i64 m1, .string ⟨zm.toArray⟩] 37)).alloc (.cells #[.int .i64 n0, .int .i64 n1, .string ⟨zn.toArray⟩] 37)).alloc (.cells #[.func (.func 51) #[] #[]] 101)) = q := ⟨_, rfl⟩
  rw [hW] at HE HB ⊢
  clear hW
  obtain ⟨u0, u1, u2, t0, t1, t2⟩ : W.cell? ⟨g, o, none⟩ = some (.int .i64 a0) ∧ W.cell? ⟨g, o + 1, none⟩ = some (.int .i64 a1) ∧ W.cell? ⟨g, o + 2, none⟩ = some (.string ⟨za.toArray⟩) ∧ W.cell? ⟨g, o + 3, none⟩ = some (.int .i64 b0) ∧ W.cell? ⟨g, o + 3 + 1, none⟩ = some (.int .i64 b1) ∧ W.cell? ⟨g, o + 3 + 2, none⟩ = some (.string ⟨zb.toArray⟩) :=
    ⟨(HB.out.cell (p := ⟨g, o, none⟩) hb0).trans v0, (HB.out.cell (p := ⟨g, o + 1, none⟩) hb0).trans v1, (HB.out.cell (p := ⟨g, o + 2, none⟩) hb0).trans v2, (HB.out.cell (p := ⟨g, o + 3, none⟩) hb0).trans y0, (HB.out.cell (p := ⟨g, o + 3 + 1, none⟩) hb0).trans y1, (HB.out.cell (p := ⟨g, o + 3 + 2, none⟩) hb0).trans y2⟩
  have hgW : g < W.heap.size := Nat.lt_of_lt_of_le hb0 HB.out.size
  have a1' : Below W.heap.size W (W.alloc (.cells #[.int .i64 0, .int .i64 0, .string ⟨#[]⟩] 37)) := (Below.refl _ _).alloc (Nat.le_refl _) _
  have a2' : Below W.heap.size W ((W.alloc (.cells #[.int .i64 0, .int .i64 0, .string ⟨#[]⟩] 37)).alloc (.cells #[.int .i64 0, .int .i64 0, .string ⟨#[]⟩] 37)) := a1'.alloc (by simp) _
  have u0a := (a1'.cell (p := ⟨g, o, none⟩) hgW).trans u0
  have u1a := (a1'.cell (p := ⟨g, o + 1, none⟩) hgW).trans u1
  have u2a := (a1'.cell (p := ⟨g, o + 2, none⟩) hgW).trans u2
  have t0a := (a1'.cell (p := ⟨g, o + 3, none⟩) hgW).trans t0
  have t1a := (a1'.cell (p := ⟨g, o + 3 + 1, none⟩) hgW).trans t1
  have t2a := (a1'.cell (p := ⟨g, o + 3 + 2, none⟩) hgW).trans t2
  have u0c := (a2'.cell (p := ⟨g, o, none⟩) hgW).trans u0
  have u1c := (a2'.cell (p := ⟨g, o + 1, none⟩) hgW).trans u1
  have u2c := (a2'.cell (p := ⟨g, o + 2, none⟩) hgW).trans u2
  have t0c := (a2'.cell (p := ⟨g, o + 3, none⟩) hgW).trans t0
  have t1c := (a2'.cell (p := ⟨g, o + 3 + 1, none⟩) hgW).trans t1
  have t2c := (a2'.cell (p := ⟨g, o + 3 + 2, none⟩) hgW).trans t2
  have k1 := (Blk.new W 37 #[.int .i64 0, .int .i64 0, .string ⟨#[]⟩]).alloc (.cells #[.int .i64 0, .int .i64 0, .string ⟨#[]⟩] 37)
  have k2 := Blk.new (W.alloc (.cells #[.int .i64 0, .int .i64 0, .string ⟨#[]⟩] 37)) 37 #[.int .i64 0, .int .i64 0, .string ⟨#[]⟩]
  rw [World.size_alloc] at k2
  obtain ⟨p0, p1, p2⟩ := blk3 k1
  obtain ⟨r0, r1, r2⟩ := blk3 k2
  have f0 := k1.frozen 0; have f1 := k1.frozen 1; have f2 := k1.frozen 2
  have f3 := k2.frozen 0; have f4 := k2.frozen 1; have f5 := k2.frozen 2
  have HA := Lib.hid a2'; have HK1 := Lib.hid k1; have HK2 := Lib.hid k2
  clear a1' a2' k1 k2 v0 v1 v2 y0 y1 y2
  go_region
  · clear u0a u1a u2a t0a t1a t2a u0c u1c u2c t0c t1c t2c u0 u1 u2 t0 t1 t2 p0 p1 p2 r0 r1 r2 f0 f1 f2 f3 f4 f5 HA HK1 HK2
    have hbd : Below W.heap.size W (((W.alloc (.cells #[.int .i64 a0, .int .i64 a1, .string ⟨za.toArray⟩] 37)).alloc (.cells #[.int .i64 b0, .int .i64 b1, .string ⟨zb.toArray⟩] 37)).drew) := below_drew (((Below.refl W.heap.size W).alloc (Nat.le_refl _) _).alloc (by simp) _)
    have kA : Blk (((W.alloc (.cells #[.int .i64 a0, .int .i64 a1, .string ⟨za.toArray⟩] 37)).alloc (.cells #[.int .i64 b0, .int .i64 b1, .string ⟨zb.toArray⟩] 37)).drew) W.heap.size 37 #[.int .i64 a0, .int .i64 a1, .string ⟨za.toArray⟩] := ((Blk.new W 37 #[.int .i64 a0, .int .i64 a1, .string ⟨za.toArray⟩]).alloc (.cells #[.int .i64 b0, .int .i64 b1, .string ⟨zb.toArray⟩] 37)).drew
    have kB : Blk (((W.alloc (.cells #[.int .i64 a0, .int .i64 a1, .string ⟨za.toArray⟩] 37)).alloc (.cells #[.int .i64 b0, .int .i64 b1, .string ⟨zb.toArray⟩] 37)).drew) (W.heap.size + 1) 37 #[.int .i64 b0, .int .i64 b1, .string ⟨zb.toArray⟩] := by
      have := (Blk.new (W.alloc (.cells #[.int .i64 a0, .int .i64 a1, .string ⟨za.toArray⟩] 37)) 37 #[.int .i64 b0, .int .i64 b1, .string ⟨zb.toArray⟩]).drew
      rw [World.size_alloc] at this
      exact this
    obtain ⟨V2, hV2⟩ : ∃ q, ((W.alloc (.cells #[.int .i64 a0, .int .i64 a1, .string ⟨za.toArray⟩] 37)).alloc (.cells #[.int .i64 b0, .int .i64 b1, .string ⟨zb.toArray⟩] 37)).drew = q := ⟨_, rfl⟩
    rw [hV2] at hbd kA kB ⊢
    clear hV2
    have hE2 := Lib.hid (HE.out.next hbd); have hB2 := Lib.hid (HB.out.trans (hbd.mono HB.out.size)); have HKA := Lib.hid kA; have HKB := Lib.hid kB
    clear hbd kA kB HE HB
    have hq : (q1 = true) ∨ (q1 = false ∧ q2 = true) ∨ (q1 = false ∧ q2 = false) := by cases q1 <;> cases q2 <;> simp
    rcases hq with rfl | ⟨rfl, rfl⟩ | ⟨rfl, rfl⟩ <;> cases q4
    all_goals
      go_wp2_with fail
      have e0 := cell_regrown (show V2.cell? ⟨w.heap.size + 1 + 1, 0, none⟩ = some (.func (.func 51) #[] #[]) from hE2.out.fn.cell 0)
      obtain ⟨x0, x1, x2⟩ := blk3 hE2.out.mn
      obtain ⟨y0, y1, y2⟩ := blk3 hE2.out.mx
      obtain ⟨z0, z1, z2⟩ := blk3 HKA.out
      obtain ⟨v0, v1, v2⟩ := blk3 HKB.out
      have s0 := cell_regrown x0; have s1 := cell_regrown x1; have s2 := cell_regrown x2
      have t0 := cell_regrown y0; have t1 := cell_regrown y1; have t2 := cell_regrown y2
      have r0 := cell_regrown z0; have r1 := cell_regrown z1; have r2 := cell_regrown z2
      have p0 := cell_regrown v0; have p1 := cell_regrown v1; have p2 := cell_regrown v2
      have g1 := Lib.hid (yields_below' (H1.out V2) fun V _ => H1.out V)
      have g2 := Lib.hid (yields_below' (H2.out V2) fun V _ => H2.out V)
      have g3 := Lib.hid (yields_below' (H3.out V2) fun V _ => H3.out V)
      have g4 := Lib.hid (yields_below' (H4.out V2) fun V _ => H4.out V)
      have g5 := Lib.hid (yields_below' (H5.out V2) fun V _ => H5.out V)
      clear H1 H2 H3 H4 H5 x0 x1 x2 y0 y1 y2 z0 z1 z2 v0 v1 v2 hE2 HKA HKB
      refine wp_region_quiet_below (by kernel_rfl) (by kernel_rfl) ?_
      repeat (go_big_quiet_step (first | (go_at_call 51; first | with_reducible exact g1.out.quiet _ _ | with_reducible exact g2.out.quiet _ _ | with_reducible exact g3.out.quiet _ _ | with_reducible exact g4.out.quiet _ _ | with_reducible exact g5.out.quiet _ _)))
      refine wpQuiet_nil ?_
      intro V hV
      have hbp : Below w.heap.size w V := by obtain ⟨pp, e⟩ := hV; subst e; exact hB2.out.trans ((below_regrown V2 pp.d pp.os).mono hB2.out.size)
      clear hV r0 r1 r2 s0 s1 s2 t0 t1 t2 p0 p1 p2 e0 hB2 g1 g2 g3 g4 g5
      go_wp2_with fail
      go_ret2
      exact ⟨by first | rfl | simp, hbp⟩
  · clear u0a u1a u2a t0a t1a t2a u0c u1c u2c t0c t1c t2c u0 u1 u2 t0 t1 t2 p0 p1 p2 r0 r1 r2 f0 f1 f2 f3 f4 f5 HA HK1 HK2
    have hbd : Below W.heap.size W (((W.alloc (.cells #[.int .i64 b0, .int .i64 b1, .string ⟨zb.toArray⟩] 37)).alloc (.cells #[.int .i64 a0, .int .i64 a1, .string ⟨za.toArray⟩] 37)).drew) := below_drew (((Below.refl W.heap.size W).alloc (Nat.le_refl _) _).alloc (by simp) _)
    have kB : Blk (((W.alloc (.cells #[.int .i64 b0, .int .i64 b1, .string ⟨zb.toArray⟩] 37)).alloc (.cells #[.int .i64 a0, .int .i64 a1, .string ⟨za.toArray⟩] 37)).drew) W.heap.size 37 #[.int .i64 b0, .int .i64 b1, .string ⟨zb.toArray⟩] := ((Blk.new W 37 #[.int .i64 b0, .int .i64 b1, .string ⟨zb.toArray⟩]).alloc (.cells #[.int .i64 a0, .int .i64 a1, .string ⟨za.toArray⟩] 37)).drew
    have kA : Blk (((W.alloc (.cells #[.int .i64 b0, .int .i64 b1, .string ⟨zb.toArray⟩] 37)).alloc (.cells #[.int .i64 a0, .int .i64 a1, .string ⟨za.toArray⟩] 37)).drew) (W.heap.size + 1) 37 #[.int .i64 a0, .int .i64 a1, .string ⟨za.toArray⟩] := by
      have := (Blk.new (W.alloc (.cells #[.int .i64 b0, .int .i64 b1, .string ⟨zb.toArray⟩] 37)) 37 #[.int .i64 a0, .int .i64 a1, .string ⟨za.toArray⟩]).drew
      rw [World.size_alloc] at this
      exact this
    obtain ⟨V2, hV2⟩ : ∃ q, ((W.alloc (.cells #[.int .i64 b0, .int .i64 b1, .string ⟨zb.toArray⟩] 37)).alloc (.cells #[.int .i64 a0, .int .i64 a1, .string ⟨za.toArray⟩] 37)).drew = q := ⟨_, rfl⟩
    rw [hV2] at hbd kA kB ⊢
    clear hV2
    have hE2 := Lib.hid (HE.out.next hbd); have hB2 := Lib.hid (HB.out.trans (hbd.mono HB.out.size)); have HKA := Lib.hid kA; have HKB := Lib.hid kB
    clear hbd kA kB HE HB
    have hq : (q1 = true) ∨ (q1 = false ∧ q2 = true) ∨ (q1 = false ∧ q2 = false) := by cases q1 <;> cases q2 <;> simp
    rcases hq with rfl | ⟨rfl, rfl⟩ | ⟨rfl, rfl⟩ <;> cases q4
    all_goals
      go_wp2_with fail
      have e0 := cell_regrown (show V2.cell? ⟨w.heap.size + 1 + 1, 0, none⟩ = some (.func (.func 51) #[] #[]) from hE2.out.fn.cell 0)
      obtain ⟨x0, x1, x2⟩ := blk3 hE2.out.mn
      obtain ⟨y0, y1, y2⟩ := blk3 hE2.out.mx
      obtain ⟨z0, z1, z2⟩ := blk3 HKA.out
      obtain ⟨v0, v1, v2⟩ := blk3 HKB.out
      have s0 := cell_regrown x0; have s1 := cell_regrown x1; have s2 := cell_regrown x2
      have t0 := cell_regrown y0; have t1 := cell_regrown y1; have t2 := cell_regrown y2
      have r0 := cell_regrown z0; have r1 := cell_regrown z1; have r2 := cell_regrown z2
      have p0 := cell_regrown v0; have p1 := cell_regrown v1; have p2 := cell_regrown v2
      have g1 := Lib.hid (yields_below' (H1.out V2) fun V _ => H1.out V)
      have g2 := Lib.hid (yields_below' (H2.out V2) fun V _ => H2.out V)
      have g3 := Lib.hid (yields_below' (H3.out V2) fun V _ => H3.out V)
      have g4 := Lib.hid (yields_below' (H4.out V2) fun V _ => H4.out V)
      have g5 := Lib.hid (yields_below' (H5.out V2) fun V _ => H5.out V)
      clear H1 H2 H3 H4 H5 x0 x1 x2 y0 y1 y2 z0 z1 z2 v0 v1 v2 hE2 HKA HKB
      refine wp_region_quiet_below (by kernel_rfl) (by kernel_rfl) ?_
      repeat (go_big_quiet_step (first | (go_at_call 51; first | with_reducible exact g1.out.quiet _ _ | with_reducible exact g2.out.quiet _ _ | with_reducible exact g3.out.quiet _ _ | with_reducible exact g4.out.quiet _ _ | with_reducible exact g5.out.quiet _ _)))
      refine wpQuiet_nil ?_
      intro V hV
      have hbp : Below w.heap.size w V := by obtain ⟨pp, e⟩ := hV; subst e; exact hB2.out.trans ((below_regrown V2 pp.d pp.os).mono hB2.out.size)
      clear hV r0 r1 r2 s0 s1 s2 t0 t1 t2 p0 p1 p2 e0 hB2 g1 g2 g3 g4 g5
      go_wp2_with fail
      go_ret2
      exact ⟨by first | rfl | simp, hbp⟩
end
end Go.Proofs.YtmjpjllbfgkfbaaDoor
