/- Contract of zone's ofOthers at PEq to PGe: what may be of values that aren't nothing. -/
import Derived.Lib.QuietBelow
import Derived.Laws.EntriesVeiled
import Derived.Deep.DeepCutAuto
import Derived.Deep.RegionLaw
import Derived.Deep.CutBlock
import Derived.Test.YtmjpjllbfgkfbaaDoorJ4
namespace Go.Proofs.YtmjpjllbfgkfbaaDoor
open Go.RowKit
set_option linter.unusedVariables false
set_option linter.unusedSimpArgs false
set_option maxRecDepth 100000

theorem yields_below' {W : World} {f : FuncId} {args : Array Value} {v : Value} (h : Calls Tryd.prog f args W fun e w' => e = .returned v ∧ Below W.heap.size W w') (hk : ∀ V, Below W.heap.size W V → Calls Tryd.prog f args V fun e w' => e = .returned v ∧ Below V.heap.size V w') : Yields W.heap.size W f args v :=
  fun V hb => (hk V hb).mono fun e w' ⟨he, hw⟩ => ⟨he, hb.trans (hw.mono hb.size)⟩
/-- What ofOthers makes ahead of its switch. -/
theorem ends_mem (w : World) (m0 m1 n0 n1 : Int) (zm zn : Tx) :
    Ends (((w.alloc (.cells #[.int .i64 m0, .int .i64 m1, .string ⟨zm.toArray⟩] 37)).alloc (.cells #[.int .i64 n0, .int .i64 n1, .string ⟨zn.toArray⟩] 37)).alloc (.cells #[.func (.func 51) #[] #[]] 101)) (w.heap.size + 1 + 1) w.heap.size (w.heap.size + 1) (m0, m1, zm) (n0, n1, zn) ∧ Below w.heap.size w (((w.alloc (.cells #[.int .i64 m0, .int .i64 m1, .string ⟨zm.toArray⟩] 37)).alloc (.cells #[.int .i64 n0, .int .i64 n1, .string ⟨zn.toArray⟩] 37)).alloc (.cells #[.func (.func 51) #[] #[]] 101)) := by
  have k3 := Blk.new ((w.alloc (.cells #[.int .i64 m0, .int .i64 m1, .string ⟨zm.toArray⟩] 37)).alloc (.cells #[.int .i64 n0, .int .i64 n1, .string ⟨zn.toArray⟩] 37)) 101 #[.func (.func 51) #[] #[]]
  have k1 := ((Blk.new w 37 #[.int .i64 m0, .int .i64 m1, .string ⟨zm.toArray⟩]).alloc (.cells #[.int .i64 n0, .int .i64 n1, .string ⟨zn.toArray⟩] 37)).alloc (.cells #[.func (.func 51) #[] #[]] 101)
  have k2 := (Blk.new (w.alloc (.cells #[.int .i64 m0, .int .i64 m1, .string ⟨zm.toArray⟩] 37)) 37 #[.int .i64 n0, .int .i64 n1, .string ⟨zn.toArray⟩]).alloc (.cells #[.func (.func 51) #[] #[]] 101)
  rw [World.size_alloc] at k2
  rw [World.size_alloc, World.size_alloc] at k3
  exact ⟨⟨k3, k1, k2⟩, (((Below.refl w.heap.size w).alloc (Nat.le_refl _) _).alloc (by simp) _).alloc (by simp; omega) _⟩
section
variable {op : Int} {A : Option Addr} {c : Nat} {w : World}
set_option maxHeartbeats 4000000 in
theorem of_1 (a mn mx : Vl) (hr : Reads w w.heap.size 3 A 1 (vs [a])) :
    Calls Tryd.prog 50 #[.int .i64 1, .slice A 1 c, vW mn, vW mx] w fun e w' => e = .returned (.tuple #[.bool (ofZ 1 [a] mn mx).1, .bool (ofZ 1 [a] mn mx).2]) ∧ Below w.heap.size w w' := by
  rw [show ofZ 1 [a] mn mx = (wiZ mn mx a, !alZ mn mx a) from rfl]
  have H1 := Lib.hid fun (W : World) (h m g : Nat) (hE : Ends W h m g mn mx) => within_any a hE
  have H2 := Lib.hid fun (W : World) (h m g : Nat) (hE : Ends W h m g mn mx) => alone_any a hE
  obtain ⟨q1, hq1⟩ : ∃ q, wiZ mn mx a = q := ⟨_, rfl⟩
  obtain ⟨q2, hq2⟩ : ∃ q, alZ mn mx a = q := ⟨_, rfl⟩
  rw [hq1] at H1 ⊢
  rw [hq2] at H2 ⊢
  clear hq1 hq2
  obtain ⟨a0, a1, za⟩ := a
  obtain ⟨m0, m1, zm⟩ := mn
  obtain ⟨n0, n1, zn⟩ := mx
  simp only [vW] at H1 H2 ⊢
  obtain ⟨b, o, rfl, hb0, v0, v1, v2⟩ := hr.val (show ([(a0, a1, za)] : List Vl)[0]? = some (a0, a1, za) from rfl)
  rw [Nat.zero_mul, Nat.add_zero] at v0 v1 v2
  clear hr
  have hmf := hmfP
  obtain ⟨hE, hB⟩ := ends_mem w m0 m1 n0 n1 zm zn
  have HE := Lib.hid hE; have HB := Lib.hid hB
  clear hE hB
  go_enter Tryd.func50, Tryd.ntmps50
  go_upto_region 6 with fail
  obtain ⟨W, hW⟩ : ∃ q, (((w.alloc (.cells #[.int .i64 m0, .int .i64 m1, .string ⟨zm.toArray⟩] 37)).alloc (.cells #[.int .i64 n0, .int .i64 n1, .string ⟨zn.toArray⟩] 37)).alloc (.cells #[.func (.func 51) #[] #[]] 101)) = q := ⟨_, rfl⟩
  rw [hW] at HE HB ⊢
  clear hW
  have u0 := (HB.out.cell (p := ⟨b, o, none⟩) hb0).trans v0; have u1 := (HB.out.cell (p := ⟨b, o + 1, none⟩) hb0).trans v1; have u2 := (HB.out.cell (p := ⟨b, o + 2, none⟩) hb0).trans v2
  have r0 := cell_regrown u0; have r1 := cell_regrown u1; have r2 := cell_regrown u2
  have e0 := cell_regrown (show W.cell? ⟨w.heap.size + 1 + 1, 0, none⟩ = some (.func (.func 51) #[] #[]) from HE.out.fn.cell 0)
  obtain ⟨x0, x1, x2⟩ := blk3 HE.out.mn
  obtain ⟨y0, y1, y2⟩ := blk3 HE.out.mx
  have s0 := cell_regrown x0; have s1 := cell_regrown x1; have s2 := cell_regrown x2
  have t0 := cell_regrown y0; have t1 := cell_regrown y1; have t2 := cell_regrown y2
  have g1 := Lib.hid (yields_below' (H1.out _ _ _ _ HE.out) fun V hV => H1.out V _ _ _ (HE.out.next hV))
  have g2 := Lib.hid (yields_below' (H2.out _ _ _ _ HE.out) fun V hV => H2.out V _ _ _ (HE.out.next hV))
  clear H1 H2
  refine wp_region_quiet_below (by kernel_rfl) (by kernel_rfl) ?_
  repeat (go_big_quiet_step (first | (go_at_call 52; with_reducible exact g1.out.quiet _ _) | (go_at_call 53; with_reducible exact g2.out.quiet _ _)))
  refine wpQuiet_nil ?_
  intro V hV
  have hbp : Below w.heap.size w V := by obtain ⟨pp, e⟩ := hV; subst e; exact HB.out.trans ((below_regrown W pp.d pp.os).mono HB.out.size)
  clear hV r0 r1 r2 s0 s1 s2 t0 t1 t2 e0 x0 x1 x2 y0 y1 y2 u0 u1 u2 v0 v1 v2 HE HB g1 g2
  go_wp2_with fail
  go_ret2
  exact ⟨by first | rfl | simp, hbp⟩
set_option maxHeartbeats 4000000 in
theorem of_2 (a mn mx : Vl) (hr : Reads w w.heap.size 3 A 1 (vs [a])) :
    Calls Tryd.prog 50 #[.int .i64 2, .slice A 1 c, vW mn, vW mx] w fun e w' => e = .returned (.tuple #[.bool (ofZ 2 [a] mn mx).1, .bool (ofZ 2 [a] mn mx).2]) ∧ Below w.heap.size w w' := by
  rw [show ofZ 2 [a] mn mx = (!alZ mn mx a, wiZ mn mx a) from rfl]
  have H1 := Lib.hid fun (W : World) (h m g : Nat) (hE : Ends W h m g mn mx) => within_any a hE
  have H2 := Lib.hid fun (W : World) (h m g : Nat) (hE : Ends W h m g mn mx) => alone_any a hE
  obtain ⟨q1, hq1⟩ : ∃ q, wiZ mn mx a = q := ⟨_, rfl⟩
  obtain ⟨q2, hq2⟩ : ∃ q, alZ mn mx a = q := ⟨_, rfl⟩
  rw [hq1] at H1 ⊢
  rw [hq2] at H2 ⊢
  clear hq1 hq2
  obtain ⟨a0, a1, za⟩ := a
  obtain ⟨m0, m1, zm⟩ := mn
  obtain ⟨n0, n1, zn⟩ := mx
  simp only [vW] at H1 H2 ⊢
  obtain ⟨b, o, rfl, hb0, v0, v1, v2⟩ := hr.val (show ([(a0, a1, za)] : List Vl)[0]? = some (a0, a1, za) from rfl)
  rw [Nat.zero_mul, Nat.add_zero] at v0 v1 v2
  clear hr
  have hmf := hmfP
  obtain ⟨hE, hB⟩ := ends_mem w m0 m1 n0 n1 zm zn
  have HE := Lib.hid hE; have HB := Lib.hid hB
  clear hE hB
  go_enter Tryd.func50, Tryd.ntmps50
  go_upto_region 8 with fail
  obtain ⟨W, hW⟩ : ∃ q, (((w.alloc (.cells #[.int .i64 m0, .int .i64 m1, .string ⟨zm.toArray⟩] 37)).alloc (.cells #[.int .i64 n0, .int .i64 n1, .string ⟨zn.toArray⟩] 37)).alloc (.cells #[.func (.func 51) #[] #[]] 101)) = q := ⟨_, rfl⟩
  rw [hW] at HE HB ⊢
  clear hW
  have u0 := (HB.out.cell (p := ⟨b, o, none⟩) hb0).trans v0; have u1 := (HB.out.cell (p := ⟨b, o + 1, none⟩) hb0).trans v1; have u2 := (HB.out.cell (p := ⟨b, o + 2, none⟩) hb0).trans v2
  have r0 := cell_regrown u0; have r1 := cell_regrown u1; have r2 := cell_regrown u2
  have e0 := cell_regrown (show W.cell? ⟨w.heap.size + 1 + 1, 0, none⟩ = some (.func (.func 51) #[] #[]) from HE.out.fn.cell 0)
  obtain ⟨x0, x1, x2⟩ := blk3 HE.out.mn
  obtain ⟨y0, y1, y2⟩ := blk3 HE.out.mx
  have s0 := cell_regrown x0; have s1 := cell_regrown x1; have s2 := cell_regrown x2
  have t0 := cell_regrown y0; have t1 := cell_regrown y1; have t2 := cell_regrown y2
  have g1 := Lib.hid (yields_below' (H1.out _ _ _ _ HE.out) fun V hV => H1.out V _ _ _ (HE.out.next hV))
  have g2 := Lib.hid (yields_below' (H2.out _ _ _ _ HE.out) fun V hV => H2.out V _ _ _ (HE.out.next hV))
  clear H1 H2
  refine wp_region_quiet_below (by kernel_rfl) (by kernel_rfl) ?_
  repeat (go_big_quiet_step (first | (go_at_call 52; with_reducible exact g1.out.quiet _ _) | (go_at_call 53; with_reducible exact g2.out.quiet _ _)))
  refine wpQuiet_nil ?_
  intro V hV
  have hbp : Below w.heap.size w V := by obtain ⟨pp, e⟩ := hV; subst e; exact HB.out.trans ((below_regrown W pp.d pp.os).mono HB.out.size)
  clear hV r0 r1 r2 s0 s1 s2 t0 t1 t2 e0 x0 x1 x2 y0 y1 y2 u0 u1 u2 v0 v1 v2 HE HB g1 g2
  go_wp2_with fail
  go_ret2
  exact ⟨by first | rfl | simp, hbp⟩
set_option maxHeartbeats 4000000 in
theorem of_3 (a mn mx : Vl) (hr : Reads w w.heap.size 3 A 1 (vs [a])) :
    Calls Tryd.prog 50 #[.int .i64 3, .slice A 1 c, vW mn, vW mx] w fun e w' => e = .returned (.tuple #[.bool (ofZ 3 [a] mn mx).1, .bool (ofZ 3 [a] mn mx).2]) ∧ Below w.heap.size w w' := by
  rw [show ofZ 3 [a] mn mx = (ahV mn a, !ahV mx a) from rfl]
  have H1 := Lib.hid fun (W : World) => ahead_any mn a W
  have H2 := Lib.hid fun (W : World) => ahead_any mx a W
  obtain ⟨q1, hq1⟩ : ∃ q, ahV mn a = q := ⟨_, rfl⟩
  obtain ⟨q2, hq2⟩ : ∃ q, ahV mx a = q := ⟨_, rfl⟩
  rw [hq1] at H1 ⊢
  rw [hq2] at H2 ⊢
  clear hq1 hq2
  obtain ⟨a0, a1, za⟩ := a
  obtain ⟨m0, m1, zm⟩ := mn
  obtain ⟨n0, n1, zn⟩ := mx
  simp only [vW] at H1 H2 ⊢
  obtain ⟨b, o, rfl, hb0, v0, v1, v2⟩ := hr.val (show ([(a0, a1, za)] : List Vl)[0]? = some (a0, a1, za) from rfl)
  rw [Nat.zero_mul, Nat.add_zero] at v0 v1 v2
  clear hr
  have hmf := hmfP
  obtain ⟨hE, hB⟩ := ends_mem w m0 m1 n0 n1 zm zn
  have HE := Lib.hid hE; have HB := Lib.hid hB
  clear hE hB
  go_enter Tryd.func50, Tryd.ntmps50
  go_upto_region 10 with fail
  obtain ⟨W, hW⟩ : ∃ q, (((w.alloc (.cells #[.int .i64 m0, .int .i64 m1, .string ⟨zm.toArray⟩] 37)).alloc (.cells #[.int .i64 n0, .int .i64 n1, .string ⟨zn.toArray⟩] 37)).alloc (.cells #[.func (.func 51) #[] #[]] 101)) = q := ⟨_, rfl⟩
  rw [hW] at HE HB ⊢
  clear hW
  have u0 := (HB.out.cell (p := ⟨b, o, none⟩) hb0).trans v0; have u1 := (HB.out.cell (p := ⟨b, o + 1, none⟩) hb0).trans v1; have u2 := (HB.out.cell (p := ⟨b, o + 2, none⟩) hb0).trans v2
  have r0 := cell_regrown u0; have r1 := cell_regrown u1; have r2 := cell_regrown u2
  have e0 := cell_regrown (show W.cell? ⟨w.heap.size + 1 + 1, 0, none⟩ = some (.func (.func 51) #[] #[]) from HE.out.fn.cell 0)
  obtain ⟨x0, x1, x2⟩ := blk3 HE.out.mn
  obtain ⟨y0, y1, y2⟩ := blk3 HE.out.mx
  have s0 := cell_regrown x0; have s1 := cell_regrown x1; have s2 := cell_regrown x2
  have t0 := cell_regrown y0; have t1 := cell_regrown y1; have t2 := cell_regrown y2
  have g1 := Lib.hid (yields_below' (H1.out W) fun V _ => H1.out V)
  have g2 := Lib.hid (yields_below' (H2.out W) fun V _ => H2.out V)
  clear H1 H2
  refine wp_region_quiet_below (by kernel_rfl) (by kernel_rfl) ?_
  repeat (go_big_quiet_step (first | (go_at_call 51; first | with_reducible exact g1.out.quiet _ _ | with_reducible exact g2.out.quiet _ _)))
  refine wpQuiet_nil ?_
  intro V hV
  have hbp : Below w.heap.size w V := by obtain ⟨pp, e⟩ := hV; subst e; exact HB.out.trans ((below_regrown W pp.d pp.os).mono HB.out.size)
  clear hV r0 r1 r2 s0 s1 s2 t0 t1 t2 e0 x0 x1 x2 y0 y1 y2 u0 u1 u2 v0 v1 v2 HE HB g1 g2
  go_wp2_with fail
  go_ret2
  exact ⟨by first | rfl | simp, hbp⟩
set_option maxHeartbeats 4000000 in
theorem of_4 (a mn mx : Vl) (hr : Reads w w.heap.size 3 A 1 (vs [a])) :
    Calls Tryd.prog 50 #[.int .i64 4, .slice A 1 c, vW mn, vW mx] w fun e w' => e = .returned (.tuple #[.bool (ofZ 4 [a] mn mx).1, .bool (ofZ 4 [a] mn mx).2]) ∧ Below w.heap.size w w' := by
  rw [show ofZ 4 [a] mn mx = (!ahV a mn, ahV a mx) from rfl]
  have H1 := Lib.hid fun (W : World) => ahead_any a mn W
  have H2 := Lib.hid fun (W : World) => ahead_any a mx W
  obtain ⟨q1, hq1⟩ : ∃ q, ahV a mn = q := ⟨_, rfl⟩
  obtain ⟨q2, hq2⟩ : ∃ q, ahV a mx = q := ⟨_, rfl⟩
  rw [hq1] at H1 ⊢
  rw [hq2] at H2 ⊢
  clear hq1 hq2
  obtain ⟨a0, a1, za⟩ := a
  obtain ⟨m0, m1, zm⟩ := mn
  obtain ⟨n0, n1, zn⟩ := mx
  simp only [vW] at H1 H2 ⊢
  obtain ⟨b, o, rfl, hb0, v0, v1, v2⟩ := hr.val (show ([(a0, a1, za)] : List Vl)[0]? = some (a0, a1, za) from rfl)
  rw [Nat.zero_mul, Nat.add_zero] at v0 v1 v2
  clear hr
  have hmf := hmfP
  obtain ⟨hE, hB⟩ := ends_mem w m0 m1 n0 n1 zm zn
  have HE := Lib.hid hE; have HB := Lib.hid hB
  clear hE hB
  go_enter Tryd.func50, Tryd.ntmps50
  go_upto_region 12 with fail
  obtain ⟨W, hW⟩ : ∃ q, (((w.alloc (.cells #[.int .i64 m0, .int .i64 m1, .string ⟨zm.toArray⟩] 37)).alloc (.cells #[.int .i64 n0, .int .i64 n1, .string ⟨zn.toArray⟩] 37)).alloc (.cells #[.func (.func 51) #[] #[]] 101)) = q := ⟨_, rfl⟩
  rw [hW] at HE HB ⊢
  clear hW
  have u0 := (HB.out.cell (p := ⟨b, o, none⟩) hb0).trans v0; have u1 := (HB.out.cell (p := ⟨b, o + 1, none⟩) hb0).trans v1; have u2 := (HB.out.cell (p := ⟨b, o + 2, none⟩) hb0).trans v2
  have r0 := cell_regrown u0; have r1 := cell_regrown u1; have r2 := cell_regrown u2
  have e0 := cell_regrown (show W.cell? ⟨w.heap.size + 1 + 1, 0, none⟩ = some (.func (.func 51) #[] #[]) from HE.out.fn.cell 0)
  obtain ⟨x0, x1, x2⟩ := blk3 HE.out.mn
  obtain ⟨y0, y1, y2⟩ := blk3 HE.out.mx
  have s0 := cell_regrown x0; have s1 := cell_regrown x1; have s2 := cell_regrown x2
  have t0 := cell_regrown y0; have t1 := cell_regrown y1; have t2 := cell_regrown y2
  have g1 := Lib.hid (yields_below' (H1.out W) fun V _ => H1.out V)
  have g2 := Lib.hid (yields_below' (H2.out W) fun V _ => H2.out V)
  clear H1 H2
  refine wp_region_quiet_below (by kernel_rfl) (by kernel_rfl) ?_
  repeat (go_big_quiet_step (first | (go_at_call 51; first | with_reducible exact g1.out.quiet _ _ | with_reducible exact g2.out.quiet _ _)))
  refine wpQuiet_nil ?_
  intro V hV
  have hbp : Below w.heap.size w V := by obtain ⟨pp, e⟩ := hV; subst e; exact HB.out.trans ((below_regrown W pp.d pp.os).mono HB.out.size)
  clear hV r0 r1 r2 s0 s1 s2 t0 t1 t2 e0 x0 x1 x2 y0 y1 y2 u0 u1 u2 v0 v1 v2 HE HB g1 g2
  go_wp2_with fail
  go_ret2
  exact ⟨by first | rfl | simp, hbp⟩
set_option maxHeartbeats 4000000 in
theorem of_5 (a mn mx : Vl) (hr : Reads w w.heap.size 3 A 1 (vs [a])) :
    Calls Tryd.prog 50 #[.int .i64 5, .slice A 1 c, vW mn, vW mx] w fun e w' => e = .returned (.tuple #[.bool (ofZ 5 [a] mn mx).1, .bool (ofZ 5 [a] mn mx).2]) ∧ Below w.heap.size w w' := by
  rw [show ofZ 5 [a] mn mx = (ahV a mx, !ahV a mn) from rfl]
  have H1 := Lib.hid fun (W : World) => ahead_any a mx W
  have H2 := Lib.hid fun (W : World) => ahead_any a mn W
  obtain ⟨q1, hq1⟩ : ∃ q, ahV a mx = q := ⟨_, rfl⟩
  obtain ⟨q2, hq2⟩ : ∃ q, ahV a mn = q := ⟨_, rfl⟩
  rw [hq1] at H1 ⊢
  rw [hq2] at H2 ⊢
  clear hq1 hq2
  obtain ⟨a0, a1, za⟩ := a
  obtain ⟨m0, m1, zm⟩ := mn
  obtain ⟨n0, n1, zn⟩ := mx
  simp only [vW] at H1 H2 ⊢
  obtain ⟨b, o, rfl, hb0, v0, v1, v2⟩ := hr.val (show ([(a0, a1, za)] : List Vl)[0]? = some (a0, a1, za) from rfl)
  rw [Nat.zero_mul, Nat.add_zero] at v0 v1 v2
  clear hr
  have hmf := hmfP
  obtain ⟨hE, hB⟩ := ends_mem w m0 m1 n0 n1 zm zn
  have HE := Lib.hid hE; have HB := Lib.hid hB
  clear hE hB
  go_enter Tryd.func50, Tryd.ntmps50
  go_upto_region 14 with fail
  obtain ⟨W, hW⟩ : ∃ q, (((w.alloc (.cells #[.int .i64 m0, .int .i64 m1, .string ⟨zm.toArray⟩] 37)).alloc (.cells #[.int .i64 n0, .int .i64 n1, .string ⟨zn.toArray⟩] 37)).alloc (.cells #[.func (.func 51) #[] #[]] 101)) = q := ⟨_, rfl⟩
  rw [hW] at HE HB ⊢
  clear hW
  have u0 := (HB.out.cell (p := ⟨b, o, none⟩) hb0).trans v0; have u1 := (HB.out.cell (p := ⟨b, o + 1, none⟩) hb0).trans v1; have u2 := (HB.out.cell (p := ⟨b, o + 2, none⟩) hb0).trans v2
  have r0 := cell_regrown u0; have r1 := cell_regrown u1; have r2 := cell_regrown u2
  have e0 := cell_regrown (show W.cell? ⟨w.heap.size + 1 + 1, 0, none⟩ = some (.func (.func 51) #[] #[]) from HE.out.fn.cell 0)
  obtain ⟨x0, x1, x2⟩ := blk3 HE.out.mn
  obtain ⟨y0, y1, y2⟩ := blk3 HE.out.mx
  have s0 := cell_regrown x0; have s1 := cell_regrown x1; have s2 := cell_regrown x2
  have t0 := cell_regrown y0; have t1 := cell_regrown y1; have t2 := cell_regrown y2
  have g1 := Lib.hid (yields_below' (H1.out W) fun V _ => H1.out V)
  have g2 := Lib.hid (yields_below' (H2.out W) fun V _ => H2.out V)
  clear H1 H2
  refine wp_region_quiet_below (by kernel_rfl) (by kernel_rfl) ?_
  repeat (go_big_quiet_step (first | (go_at_call 51; first | with_reducible exact g1.out.quiet _ _ | with_reducible exact g2.out.quiet _ _)))
  refine wpQuiet_nil ?_
  intro V hV
  have hbp : Below w.heap.size w V := by obtain ⟨pp, e⟩ := hV; subst e; exact HB.out.trans ((below_regrown W pp.d pp.os).mono HB.out.size)
  clear hV r0 r1 r2 s0 s1 s2 t0 t1 t2 e0 x0 x1 x2 y0 y1 y2 u0 u1 u2 v0 v1 v2 HE HB g1 g2
  go_wp2_with fail
  go_ret2
  exact ⟨by first | rfl | simp, hbp⟩
set_option maxHeartbeats 4000000 in
theorem of_6 (a mn mx : Vl) (hr : Reads w w.heap.size 3 A 1 (vs [a])) :
    Calls Tryd.prog 50 #[.int .i64 6, .slice A 1 c, vW mn, vW mx] w fun e w' => e = .returned (.tuple #[.bool (ofZ 6 [a] mn mx).1, .bool (ofZ 6 [a] mn mx).2]) ∧ Below w.heap.size w w' := by
  rw [show ofZ 6 [a] mn mx = (!ahV mx a, ahV mn a) from rfl]
  have H1 := Lib.hid fun (W : World) => ahead_any mx a W
  have H2 := Lib.hid fun (W : World) => ahead_any mn a W
  obtain ⟨q1, hq1⟩ : ∃ q, ahV mx a = q := ⟨_, rfl⟩
  obtain ⟨q2, hq2⟩ : ∃ q, ahV mn a = q := ⟨_, rfl⟩
  rw [hq1] at H1 ⊢
  rw [hq2] at H2 ⊢
  clear hq1 hq2
  obtain ⟨a0, a1, za⟩ := a
  obtain ⟨m0, m1, zm⟩ := mn
  obtain ⟨n0, n1, zn⟩ := mx
  simp only [vW] at H1 H2 ⊢
  obtain ⟨b, o, rfl, hb0, v0, v1, v2⟩ := hr.val (show ([(a0, a1, za)] : List Vl)[0]? = some (a0, a1, za) from rfl)
  rw [Nat.zero_mul, Nat.add_zero] at v0 v1 v2
  clear hr
  have hmf := hmfP
  obtain ⟨hE, hB⟩ := ends_mem w m0 m1 n0 n1 zm zn
  have HE := Lib.hid hE; have HB := Lib.hid hB
  clear hE hB
  go_enter Tryd.func50, Tryd.ntmps50
  go_upto_region 16 with fail
  obtain ⟨W, hW⟩ : ∃ q, (((w.alloc (.cells #[.int .i64 m0, .int .i64 m1, .string ⟨zm.toArray⟩] 37)).alloc (.cells #[.int .i64 n0, .int .i64 n1, .string ⟨zn.toArray⟩] 37)).alloc (.cells #[.func (.func 51) #[] #[]] 101)) = q := ⟨_, rfl⟩
  rw [hW] at HE HB ⊢
  clear hW
  have u0 := (HB.out.cell (p := ⟨b, o, none⟩) hb0).trans v0; have u1 := (HB.out.cell (p := ⟨b, o + 1, none⟩) hb0).trans v1; have u2 := (HB.out.cell (p := ⟨b, o + 2, none⟩) hb0).trans v2
  have r0 := cell_regrown u0; have r1 := cell_regrown u1; have r2 := cell_regrown u2
  have e0 := cell_regrown (show W.cell? ⟨w.heap.size + 1 + 1, 0, none⟩ = some (.func (.func 51) #[] #[]) from HE.out.fn.cell 0)
  obtain ⟨x0, x1, x2⟩ := blk3 HE.out.mn
  obtain ⟨y0, y1, y2⟩ := blk3 HE.out.mx
  have s0 := cell_regrown x0; have s1 := cell_regrown x1; have s2 := cell_regrown x2
  have t0 := cell_regrown y0; have t1 := cell_regrown y1; have t2 := cell_regrown y2
  have g1 := Lib.hid (yields_below' (H1.out W) fun V _ => H1.out V)
  have g2 := Lib.hid (yields_below' (H2.out W) fun V _ => H2.out V)
  clear H1 H2
  refine wp_region_quiet_below (by kernel_rfl) (by kernel_rfl) ?_
  repeat (go_big_quiet_step (first | (go_at_call 51; first | with_reducible exact g1.out.quiet _ _ | with_reducible exact g2.out.quiet _ _)))
  refine wpQuiet_nil ?_
  intro V hV
  have hbp : Below w.heap.size w V := by obtain ⟨pp, e⟩ := hV; subst e; exact HB.out.trans ((below_regrown W pp.d pp.os).mono HB.out.size)
  clear hV r0 r1 r2 s0 s1 s2 t0 t1 t2 e0 x0 x1 x2 y0 y1 y2 u0 u1 u2 v0 v1 v2 HE HB g1 g2
  go_wp2_with fail
  go_ret2
  exact ⟨by first | rfl | simp, hbp⟩
end
end Go.Proofs.YtmjpjllbfgkfbaaDoor
