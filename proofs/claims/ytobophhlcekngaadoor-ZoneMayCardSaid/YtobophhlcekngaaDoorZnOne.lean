/- Contract of the document's one of layer 17: what may be of a predicate that names a column, of values that aren't nothing. -/
import Derived.BigQuiet
import Derived.Deep.QuietTactic
import Derived.WalkSmall
import Derived.Deep.DeepCutAuto
import Derived.Deep.RegionLaw
import Derived.Deep.CutBlock
import Derived.Test.YtobophhlcekngaaDoorZnCmp
import Derived.Test.YtobophhlcekngaaDoorJ3
import Derived.Test.YtobophhlcekngaaDoorJ4
namespace Go.Proofs.YtobophhlcekngaaDoor
open Go.RowKit
set_option linter.unusedVariables false
set_option linter.unusedSimpArgs false
set_option maxRecDepth 100000

/-- A zone's cells. -/
def zc (z : Zn) : List Value := [.int .i64 z.1, .bool z.2.1] ++ vc z.2.2.1 ++ vc z.2.2.2
/-- A zone handed over. -/
def zW (z : Zn) : Value := .agg #[.int .i64 z.1, .bool z.2.1, .int .i64 z.2.2.1.1, .int .i64 z.2.2.1.2.1, .string ⟨z.2.2.1.2.2.toArray⟩, .int .i64 z.2.2.2.1, .int .i64 z.2.2.2.2.1, .string ⟨z.2.2.2.2.2.toArray⟩]
theorem blk8 {w : World} {g : Nat} {t : TypeId} {a b c d e f h i : Value} (H : Blk w g t #[a, b, c, d, e, f, h, i]) : w.cell? ⟨g, 0, none⟩ = some a ∧ w.cell? ⟨g, 1, none⟩ = some b ∧ w.cell? ⟨g, 2, none⟩ = some c ∧ w.cell? ⟨g, 3, none⟩ = some d ∧ w.cell? ⟨g, 4, none⟩ = some e ∧ w.cell? ⟨g, 5, none⟩ = some f ∧ w.cell? ⟨g, 6, none⟩ = some h ∧ w.cell? ⟨g, 7, none⟩ = some i :=
  ⟨H.cell 0, H.cell 1, H.cell 2, H.cell 3, H.cell 4, H.cell 5, H.cell 6, H.cell 7⟩
section
variable {op col : Int} {A A' : Option Addr} {c n c' : Nat} {w : World}
set_option maxHeartbeats 4000000 in
theorem one36 (a : Vl) (z : Zn) (hr : Reads w w.heap.size 3 A 1 (vs [a])) (hop : 3 ≤ op ∧ op ≤ 6) :
    Calls Tryd.prog 15 #[.agg #[.int .i64 op, .int .i64 col, .slice A 1 c, .slice A' n c'], zW z] w fun e w' => e = .returned (.tuple #[.bool (oneZ op [a] z).1, .bool (oneZ op [a] z).2]) ∧ Below w.heap.size w w' := by
  obtain ⟨nl, so, ⟨m0, m1, zm⟩, ⟨n0, n1, zn⟩⟩ := z
  obtain ⟨a0, a1, za⟩ := a
  have HC1 := Lib.hid fun (W : World) => cmp17_any (m0, m1, zm) (a0, a1, za) W
  have HC2 := Lib.hid fun (W : World) => cmp17_any (n0, n1, zn) (a0, a1, za) W
  have hO : oneZ op [(a0, a1, za)] (nl, so, (m0, m1, zm), (n0, n1, zn)) = (if op = 3 then (decide (cmpV (m0, m1, zm) (a0, a1, za) < 0), decide (0 ≤ cmpV (n0, n1, zn) (a0, a1, za)))
      else if op = 4 then (decide (cmpV (m0, m1, zm) (a0, a1, za) ≤ 0), decide (0 < cmpV (n0, n1, zn) (a0, a1, za))) else if op = 5 then (decide (0 < cmpV (n0, n1, zn) (a0, a1, za)), decide (cmpV (m0, m1, zm) (a0, a1, za) ≤ 0)) else (decide (0 ≤ cmpV (n0, n1, zn) (a0, a1, za)), decide (cmpV (m0, m1, zm) (a0, a1, za) < 0))) := by
    unfold oneZ
    simp only [List.getD_cons_zero]
    rw [if_neg (by omega), if_neg (by omega)]
    split
    · rfl
    · split
      · rfl
      · split
        · rfl
        · rw [if_pos (by omega)]
  rw [hO]
  obtain ⟨k1, hk1⟩ : ∃ k, cmpV (m0, m1, zm) (a0, a1, za) = k := ⟨_, rfl⟩
  obtain ⟨k2, hk2⟩ : ∃ k, cmpV (n0, n1, zn) (a0, a1, za) = k := ⟨_, rfl⟩
  rw [hk1] at HC1 ⊢
  rw [hk2] at HC2 ⊢
  clear hO hk1 hk2
  simp only [vW, zW] at HC1 HC2 ⊢
  have hv : ([(a0, a1, za)] : List Vl)[0]? = some (a0, a1, za) := rfl
  obtain ⟨b, o, rfl, hb0, v0, v1, v2⟩ := hr.val hv
  rw [Nat.zero_mul, Nat.add_zero] at v0 v1 v2
  clear hv hr
  have hop2 : op = 3 ∨ op = 4 ∨ op = 5 ∨ op = 6 := by omega
  clear hop
  have K1 := (Blk.new w 25 #[.int .i64 op, .int .i64 col, .slice (some ⟨b, o, none⟩) 1 c, .slice A' n c']).alloc (.cells #[.int .i64 nl, .bool so, .int .i64 m0, .int .i64 m1, .string ⟨zm.toArray⟩, .int .i64 n0, .int .i64 n1, .string ⟨zn.toArray⟩] 37)
  have K2 := Blk.new (w.alloc (.cells #[.int .i64 op, .int .i64 col, .slice (some ⟨b, o, none⟩) 1 c, .slice A' n c'] 25)) 37 #[.int .i64 nl, .bool so, .int .i64 m0, .int .i64 m1, .string ⟨zm.toArray⟩, .int .i64 n0, .int .i64 n1, .string ⟨zn.toArray⟩]
  have HB := ((Below.refl w.heap.size w).alloc (Nat.le_refl _) (.cells #[.int .i64 op, .int .i64 col, .slice (some ⟨b, o, none⟩) 1 c, .slice A' n c'] 25)).alloc (by simp) (.cells #[.int .i64 nl, .bool so, .int .i64 m0, .int .i64 m1, .string ⟨zm.toArray⟩, .int .i64 n0, .int .i64 n1, .string ⟨zn.toArray⟩] 37)
  rw [World.size_alloc] at K2
  have u0 := (HB.cell hb0).trans v0; have u1 := (HB.cell hb0).trans v1; have u2 := (HB.cell hb0).trans v2
  obtain ⟨w0, hw0⟩ : ∃ q, q = ((w.alloc (.cells #[.int .i64 op, .int .i64 col, .slice (some ⟨b, o, none⟩) 1 c, .slice A' n c'] 25)).alloc (.cells #[.int .i64 nl, .bool so, .int .i64 m0, .int .i64 m1, .string ⟨zm.toArray⟩, .int .i64 n0, .int .i64 n1, .string ⟨zn.toArray⟩] 37)) := ⟨_, rfl⟩
  rw [← hw0] at K1 K2 HB u0 u1 u2
  have HW0 := Lib.hid hw0
  clear hw0
  have HK1 := Lib.hid K1; have HK2 := Lib.hid K2; have HHB := Lib.hid HB
  clear K1 K2 HB v0 v1 v2
  rcases hop2 with rfl | rfl | rfl | rfl
  all_goals
    go_enter Tryd.func15, Tryd.ntmps15
    go_wp2_with fail
    rw [← HW0.out]
    obtain ⟨p0, p1, p2, p3⟩ := blk4' HK1.out
    obtain ⟨y0, y1, y2, y3, y4, y5, y6, y7⟩ := blk8 HK2.out
    have s0 := cell_regrown p0; have s1 := cell_regrown p1; have s2 := cell_regrown p2; have s3 := cell_regrown p3
    have t2 := cell_regrown y2; have t3 := cell_regrown y3; have t4 := cell_regrown y4; have t5 := cell_regrown y5; have t6 := cell_regrown y6; have t7 := cell_regrown y7
    have r0 := cell_regrown u0; have r1 := cell_regrown u1; have r2 := cell_regrown u2
    have f1 : Hid (Yields w0.heap.size w0 24 #[.agg #[.int .i64 m0, .int .i64 m1, .string ⟨zm.toArray⟩], .agg #[.int .i64 a0, .int .i64 a1, .string ⟨za.toArray⟩]] (.int .i64 k1)) := Lib.hid fun V hbV => (HC1.out V).mono fun e w' ⟨he, hb'⟩ => ⟨he, hbV.trans (hb'.mono hbV.size)⟩
    have f2 : Hid (Yields w0.heap.size w0 24 #[.agg #[.int .i64 n0, .int .i64 n1, .string ⟨zn.toArray⟩], .agg #[.int .i64 a0, .int .i64 a1, .string ⟨za.toArray⟩]] (.int .i64 k2)) := Lib.hid fun V hbV => (HC2.out V).mono fun e w' ⟨he, hb'⟩ => ⟨he, hbV.trans (hb'.mono hbV.size)⟩
    clear HC1 HC2
    refine wp_region_quiet_below (by kernel_rfl) (by kernel_rfl) ?_
    repeat (go_big_quiet_step (first | (go_at_call 24; first | with_reducible exact f1.out.quiet _ _ | with_reducible exact f2.out.quiet _ _)))
    refine wpQuiet_nil ?_
    intro V hV
    have hbp : Below w.heap.size w V := by obtain ⟨pp, e⟩ := hV; subst e; exact HHB.out.trans ((below_regrown w0 pp.d pp.os).mono HHB.out.size)
    clear hV f1 f2 s0 s1 s2 s3 t2 t3 t4 t5 t6 t7 r0 r1 r2 p0 p1 p2 p3 y0 y1 y2 y3 y4 y5 y6 y7 u0 u1 u2 HK1 HK2 HHB
    go_wp2_with fail
    go_ret2
    exact ⟨by first | rfl | simp, hbp⟩
set_option maxHeartbeats 4000000 in
theorem one12 (a : Vl) (z : Zn) (hr : Reads w w.heap.size 3 A 1 (vs [a])) (hop : op = 1 ∨ op = 2) :
    Calls Tryd.prog 15 #[.agg #[.int .i64 op, .int .i64 col, .slice A 1 c, .slice A' n c'], zW z] w fun e w' => e = .returned (.tuple #[.bool (oneZ op [a] z).1, .bool (oneZ op [a] z).2]) ∧ Below w.heap.size w w' := by
  obtain ⟨nl, so, ⟨m0, m1, zm⟩, ⟨n0, n1, zn⟩⟩ := z
  obtain ⟨a0, a1, za⟩ := a
  have HC1 := Lib.hid fun (W : World) => cmp17_any (m0, m1, zm) (a0, a1, za) W
  have HC2 := Lib.hid fun (W : World) => cmp17_any (n0, n1, zn) (a0, a1, za) W
  obtain ⟨k1, hk1⟩ : ∃ k, cmpV (m0, m1, zm) (a0, a1, za) = k := ⟨_, rfl⟩
  obtain ⟨k2, hk2⟩ : ∃ k, cmpV (n0, n1, zn) (a0, a1, za) = k := ⟨_, rfl⟩
  obtain ⟨b1, hb1⟩ : ∃ q, decide (k1 ≤ 0) = q := ⟨_, rfl⟩
  obtain ⟨b2, hb2⟩ : ∃ q, decide (0 ≤ k2) = q := ⟨_, rfl⟩
  obtain ⟨b3, hb3⟩ : ∃ q, decide (k1 = 0) = q := ⟨_, rfl⟩
  obtain ⟨b4, hb4⟩ : ∃ q, decide (k2 = 0) = q := ⟨_, rfl⟩
  have hO : oneZ op [(a0, a1, za)] (nl, so, (m0, m1, zm), (n0, n1, zn)) = (if op = 1 then (b1 && b2, !b3 || !b4) else (!b3 || !b4, b1 && b2)) := by
    unfold oneZ
    simp only [List.getD_cons_zero, hk1, hk2, hb1, hb2, hb3, hb4]
    rcases hop with rfl | rfl
    · rfl
    · rfl
  rw [hO]
  have c3 : (k1 != 0) = !b3 := by rw [← hb3]; cases h : decide (k1 = 0) <;> simp_all
  have c4 : (k2 != 0) = !b4 := by rw [← hb4]; cases h : decide (k2 = 0) <;> simp_all
  rw [hk1] at HC1
  rw [hk2] at HC2
  clear hO hk1 hk2 hb3 hb4
  simp only [vW, zW] at HC1 HC2 ⊢
  have hv : ([(a0, a1, za)] : List Vl)[0]? = some (a0, a1, za) := rfl
  obtain ⟨b, o, rfl, hb0, v0, v1, v2⟩ := hr.val hv
  rw [Nat.zero_mul, Nat.add_zero] at v0 v1 v2
  clear hv hr
  have K2 := (Blk.new (w.alloc (.cells #[.int .i64 op, .int .i64 col, .slice (some ⟨b, o, none⟩) 1 c, .slice A' n c'] 25)) 37 #[.int .i64 nl, .bool so, .int .i64 m0, .int .i64 m1, .string ⟨zm.toArray⟩, .int .i64 n0, .int .i64 n1, .string ⟨zn.toArray⟩]).alloc (.cells #[.int .i64 a0, .int .i64 a1, .string ⟨za.toArray⟩] 34)
  have K1 := ((Blk.new w 25 #[.int .i64 op, .int .i64 col, .slice (some ⟨b, o, none⟩) 1 c, .slice A' n c']).alloc (.cells #[.int .i64 nl, .bool so, .int .i64 m0, .int .i64 m1, .string ⟨zm.toArray⟩, .int .i64 n0, .int .i64 n1, .string ⟨zn.toArray⟩] 37)).alloc (.cells #[.int .i64 a0, .int .i64 a1, .string ⟨za.toArray⟩] 34)
  have K3 := Blk.new ((w.alloc (.cells #[.int .i64 op, .int .i64 col, .slice (some ⟨b, o, none⟩) 1 c, .slice A' n c'] 25)).alloc (.cells #[.int .i64 nl, .bool so, .int .i64 m0, .int .i64 m1, .string ⟨zm.toArray⟩, .int .i64 n0, .int .i64 n1, .string ⟨zn.toArray⟩] 37)) 34 #[.int .i64 a0, .int .i64 a1, .string ⟨za.toArray⟩]
  have HB0 := ((Below.refl w.heap.size w).alloc (Nat.le_refl _) (.cells #[.int .i64 op, .int .i64 col, .slice (some ⟨b, o, none⟩) 1 c, .slice A' n c'] 25)).alloc (by simp) (.cells #[.int .i64 nl, .bool so, .int .i64 m0, .int .i64 m1, .string ⟨zm.toArray⟩, .int .i64 n0, .int .i64 n1, .string ⟨zn.toArray⟩] 37)
  have HB := HB0.alloc (by simp; omega) (.cells #[.int .i64 a0, .int .i64 a1, .string ⟨za.toArray⟩] 34)
  have u0 := (HB0.cell hb0).trans v0; have u1 := (HB0.cell hb0).trans v1; have u2 := (HB0.cell hb0).trans v2
  rw [World.size_alloc] at K2
  rw [World.size_alloc, World.size_alloc] at K3
  obtain ⟨w0, hw0⟩ : ∃ q, q = ((w.alloc (.cells #[.int .i64 op, .int .i64 col, .slice (some ⟨b, o, none⟩) 1 c, .slice A' n c'] 25)).alloc (.cells #[.int .i64 nl, .bool so, .int .i64 m0, .int .i64 m1, .string ⟨zm.toArray⟩, .int .i64 n0, .int .i64 n1, .string ⟨zn.toArray⟩] 37)).alloc (.cells #[.int .i64 a0, .int .i64 a1, .string ⟨za.toArray⟩] 34) := ⟨_, rfl⟩
  rw [← hw0] at K1 K2 K3 HB
  have HW0 := Lib.hid hw0
  have HK1 := Lib.hid K1; have HK2 := Lib.hid K2; have HK3 := Lib.hid K3; have HHB := Lib.hid HB
  clear hw0 K1 K2 K3 HB HB0 v0 v1 v2
  have hAcc : Below w0.heap.size w0 (((w.alloc (.cells #[.int .i64 op, .int .i64 col, .slice (some ⟨b, o, none⟩) 1 c, .slice A' n c'] 25)).alloc (.cells #[.int .i64 nl, .bool so, .int .i64 m0, .int .i64 m1, .string ⟨zm.toArray⟩, .int .i64 n0, .int .i64 n1, .string ⟨zn.toArray⟩] 37)).alloc (.cells #[.int .i64 a0, .int .i64 a1, .string ⟨za.toArray⟩] 34)) := by rw [HW0.out]; exact Below.refl _ _
  have hA0 := Lib.hid hAcc
  clear hAcc
  rcases hop with rfl | rfl
  · cases b1 <;> cases b3
    · go_enter Tryd.func15, Tryd.ntmps15
      go_wp2_with fail
      refine (HC1.out _).mono ?_
      rintro e W1 ⟨rfl, hb⟩
      have hA1 := Lib.hid (hA0.out.trans (hb.mono hA0.out.size))
      clear hb
      obtain ⟨y0, y1, y2, y3, y4, y5, y6, y7⟩ := blk8 (HK2.out.below hA1.out HK2.out.lt)
      obtain ⟨s0, s1, s2⟩ := blk3 (HK3.out.below hA1.out HK3.out.lt)
      obtain ⟨x0, x1, x2, x3⟩ := blk4' (HK1.out.below hA1.out HK1.out.lt)
      go_wp2_with fail
      refine (HC1.out _).mono ?_
      rintro e W2 ⟨rfl, hb⟩
      have hA2 := Lib.hid (hA1.out.trans (hb.mono hA1.out.size))
      clear hb y0 y1 y2 y3 y4 y5 y6 y7 s0 s1 s2 x0 x1 x2 x3
      obtain ⟨y0, y1, y2, y3, y4, y5, y6, y7⟩ := blk8 (HK2.out.below hA2.out HK2.out.lt)
      obtain ⟨s0, s1, s2⟩ := blk3 (HK3.out.below hA2.out HK3.out.lt)
      obtain ⟨x0, x1, x2, x3⟩ := blk4' (HK1.out.below hA2.out HK1.out.lt)
      go_wp2_with fail
      go_ret2
      exact ⟨by first | rfl | simp, HHB.out.trans (hA2.out.mono HHB.out.size)⟩
    · go_enter Tryd.func15, Tryd.ntmps15
      go_wp2_with fail
      refine (HC1.out _).mono ?_
      rintro e W1 ⟨rfl, hb⟩
      have hA1 := Lib.hid (hA0.out.trans (hb.mono hA0.out.size))
      clear hb
      obtain ⟨y0, y1, y2, y3, y4, y5, y6, y7⟩ := blk8 (HK2.out.below hA1.out HK2.out.lt)
      obtain ⟨s0, s1, s2⟩ := blk3 (HK3.out.below hA1.out HK3.out.lt)
      obtain ⟨x0, x1, x2, x3⟩ := blk4' (HK1.out.below hA1.out HK1.out.lt)
      go_wp2_with fail
      refine (HC1.out _).mono ?_
      rintro e W2 ⟨rfl, hb⟩
      have hA2 := Lib.hid (hA1.out.trans (hb.mono hA1.out.size))
      clear hb y0 y1 y2 y3 y4 y5 y6 y7 s0 s1 s2 x0 x1 x2 x3
      obtain ⟨y0, y1, y2, y3, y4, y5, y6, y7⟩ := blk8 (HK2.out.below hA2.out HK2.out.lt)
      obtain ⟨s0, s1, s2⟩ := blk3 (HK3.out.below hA2.out HK3.out.lt)
      obtain ⟨x0, x1, x2, x3⟩ := blk4' (HK1.out.below hA2.out HK1.out.lt)
      go_wp2_with fail
      refine (HC2.out _).mono ?_
      rintro e W3 ⟨rfl, hb⟩
      have hA3 := Lib.hid (hA2.out.trans (hb.mono hA2.out.size))
      clear hb y0 y1 y2 y3 y4 y5 y6 y7 s0 s1 s2 x0 x1 x2 x3
      obtain ⟨y0, y1, y2, y3, y4, y5, y6, y7⟩ := blk8 (HK2.out.below hA3.out HK2.out.lt)
      obtain ⟨s0, s1, s2⟩ := blk3 (HK3.out.below hA3.out HK3.out.lt)
      obtain ⟨x0, x1, x2, x3⟩ := blk4' (HK1.out.below hA3.out HK1.out.lt)
      go_wp2_with fail
      go_ret2
      exact ⟨by first | rfl | simp, HHB.out.trans (hA3.out.mono HHB.out.size)⟩
    · go_enter Tryd.func15, Tryd.ntmps15
      go_wp2_with fail
      refine (HC1.out _).mono ?_
      rintro e W1 ⟨rfl, hb⟩
      have hA1 := Lib.hid (hA0.out.trans (hb.mono hA0.out.size))
      clear hb
      obtain ⟨y0, y1, y2, y3, y4, y5, y6, y7⟩ := blk8 (HK2.out.below hA1.out HK2.out.lt)
      obtain ⟨s0, s1, s2⟩ := blk3 (HK3.out.below hA1.out HK3.out.lt)
      obtain ⟨x0, x1, x2, x3⟩ := blk4' (HK1.out.below hA1.out HK1.out.lt)
      go_wp2_with fail
      refine (HC2.out _).mono ?_
      rintro e W2 ⟨rfl, hb⟩
      have hA2 := Lib.hid (hA1.out.trans (hb.mono hA1.out.size))
      clear hb y0 y1 y2 y3 y4 y5 y6 y7 s0 s1 s2 x0 x1 x2 x3
      obtain ⟨y0, y1, y2, y3, y4, y5, y6, y7⟩ := blk8 (HK2.out.below hA2.out HK2.out.lt)
      obtain ⟨s0, s1, s2⟩ := blk3 (HK3.out.below hA2.out HK3.out.lt)
      obtain ⟨x0, x1, x2, x3⟩ := blk4' (HK1.out.below hA2.out HK1.out.lt)
      go_wp2_with fail
      refine (HC1.out _).mono ?_
      rintro e W3 ⟨rfl, hb⟩
      have hA3 := Lib.hid (hA2.out.trans (hb.mono hA2.out.size))
      clear hb y0 y1 y2 y3 y4 y5 y6 y7 s0 s1 s2 x0 x1 x2 x3
      obtain ⟨y0, y1, y2, y3, y4, y5, y6, y7⟩ := blk8 (HK2.out.below hA3.out HK2.out.lt)
      obtain ⟨s0, s1, s2⟩ := blk3 (HK3.out.below hA3.out HK3.out.lt)
      obtain ⟨x0, x1, x2, x3⟩ := blk4' (HK1.out.below hA3.out HK1.out.lt)
      go_wp2_with fail
      go_ret2
      exact ⟨by first | rfl | simp, HHB.out.trans (hA3.out.mono HHB.out.size)⟩
    · go_enter Tryd.func15, Tryd.ntmps15
      go_wp2_with fail
      refine (HC1.out _).mono ?_
      rintro e W1 ⟨rfl, hb⟩
      have hA1 := Lib.hid (hA0.out.trans (hb.mono hA0.out.size))
      clear hb
      obtain ⟨y0, y1, y2, y3, y4, y5, y6, y7⟩ := blk8 (HK2.out.below hA1.out HK2.out.lt)
      obtain ⟨s0, s1, s2⟩ := blk3 (HK3.out.below hA1.out HK3.out.lt)
      obtain ⟨x0, x1, x2, x3⟩ := blk4' (HK1.out.below hA1.out HK1.out.lt)
      go_wp2_with fail
      refine (HC2.out _).mono ?_
      rintro e W2 ⟨rfl, hb⟩
      have hA2 := Lib.hid (hA1.out.trans (hb.mono hA1.out.size))
      clear hb y0 y1 y2 y3 y4 y5 y6 y7 s0 s1 s2 x0 x1 x2 x3
      obtain ⟨y0, y1, y2, y3, y4, y5, y6, y7⟩ := blk8 (HK2.out.below hA2.out HK2.out.lt)
      obtain ⟨s0, s1, s2⟩ := blk3 (HK3.out.below hA2.out HK3.out.lt)
      obtain ⟨x0, x1, x2, x3⟩ := blk4' (HK1.out.below hA2.out HK1.out.lt)
      go_wp2_with fail
      refine (HC1.out _).mono ?_
      rintro e W3 ⟨rfl, hb⟩
      have hA3 := Lib.hid (hA2.out.trans (hb.mono hA2.out.size))
      clear hb y0 y1 y2 y3 y4 y5 y6 y7 s0 s1 s2 x0 x1 x2 x3
      obtain ⟨y0, y1, y2, y3, y4, y5, y6, y7⟩ := blk8 (HK2.out.below hA3.out HK2.out.lt)
      obtain ⟨s0, s1, s2⟩ := blk3 (HK3.out.below hA3.out HK3.out.lt)
      obtain ⟨x0, x1, x2, x3⟩ := blk4' (HK1.out.below hA3.out HK1.out.lt)
      go_wp2_with fail
      refine (HC2.out _).mono ?_
      rintro e W4 ⟨rfl, hb⟩
      have hA4 := Lib.hid (hA3.out.trans (hb.mono hA3.out.size))
      clear hb y0 y1 y2 y3 y4 y5 y6 y7 s0 s1 s2 x0 x1 x2 x3
      obtain ⟨y0, y1, y2, y3, y4, y5, y6, y7⟩ := blk8 (HK2.out.below hA4.out HK2.out.lt)
      obtain ⟨s0, s1, s2⟩ := blk3 (HK3.out.below hA4.out HK3.out.lt)
      obtain ⟨x0, x1, x2, x3⟩ := blk4' (HK1.out.below hA4.out HK1.out.lt)
      go_wp2_with fail
      go_ret2
      exact ⟨by first | rfl | simp, HHB.out.trans (hA4.out.mono HHB.out.size)⟩
  · cases b1 <;> cases b3
    · go_enter Tryd.func15, Tryd.ntmps15
      go_wp2_with fail
      refine (HC1.out _).mono ?_
      rintro e W1 ⟨rfl, hb⟩
      have hA1 := Lib.hid (hA0.out.trans (hb.mono hA0.out.size))
      clear hb
      obtain ⟨y0, y1, y2, y3, y4, y5, y6, y7⟩ := blk8 (HK2.out.below hA1.out HK2.out.lt)
      obtain ⟨s0, s1, s2⟩ := blk3 (HK3.out.below hA1.out HK3.out.lt)
      obtain ⟨x0, x1, x2, x3⟩ := blk4' (HK1.out.below hA1.out HK1.out.lt)
      go_wp2_with fail
      refine (HC1.out _).mono ?_
      rintro e W2 ⟨rfl, hb⟩
      have hA2 := Lib.hid (hA1.out.trans (hb.mono hA1.out.size))
      clear hb y0 y1 y2 y3 y4 y5 y6 y7 s0 s1 s2 x0 x1 x2 x3
      obtain ⟨y0, y1, y2, y3, y4, y5, y6, y7⟩ := blk8 (HK2.out.below hA2.out HK2.out.lt)
      obtain ⟨s0, s1, s2⟩ := blk3 (HK3.out.below hA2.out HK3.out.lt)
      obtain ⟨x0, x1, x2, x3⟩ := blk4' (HK1.out.below hA2.out HK1.out.lt)
      go_wp2_with fail
      go_ret2
      exact ⟨by first | rfl | simp, HHB.out.trans (hA2.out.mono HHB.out.size)⟩
    · go_enter Tryd.func15, Tryd.ntmps15
      go_wp2_with fail
      refine (HC1.out _).mono ?_
      rintro e W1 ⟨rfl, hb⟩
      have hA1 := Lib.hid (hA0.out.trans (hb.mono hA0.out.size))
      clear hb
      obtain ⟨y0, y1, y2, y3, y4, y5, y6, y7⟩ := blk8 (HK2.out.below hA1.out HK2.out.lt)
      obtain ⟨s0, s1, s2⟩ := blk3 (HK3.out.below hA1.out HK3.out.lt)
      obtain ⟨x0, x1, x2, x3⟩ := blk4' (HK1.out.below hA1.out HK1.out.lt)
      go_wp2_with fail
      refine (HC1.out _).mono ?_
      rintro e W2 ⟨rfl, hb⟩
      have hA2 := Lib.hid (hA1.out.trans (hb.mono hA1.out.size))
      clear hb y0 y1 y2 y3 y4 y5 y6 y7 s0 s1 s2 x0 x1 x2 x3
      obtain ⟨y0, y1, y2, y3, y4, y5, y6, y7⟩ := blk8 (HK2.out.below hA2.out HK2.out.lt)
      obtain ⟨s0, s1, s2⟩ := blk3 (HK3.out.below hA2.out HK3.out.lt)
      obtain ⟨x0, x1, x2, x3⟩ := blk4' (HK1.out.below hA2.out HK1.out.lt)
      go_wp2_with fail
      refine (HC2.out _).mono ?_
      rintro e W3 ⟨rfl, hb⟩
      have hA3 := Lib.hid (hA2.out.trans (hb.mono hA2.out.size))
      clear hb y0 y1 y2 y3 y4 y5 y6 y7 s0 s1 s2 x0 x1 x2 x3
      obtain ⟨y0, y1, y2, y3, y4, y5, y6, y7⟩ := blk8 (HK2.out.below hA3.out HK2.out.lt)
      obtain ⟨s0, s1, s2⟩ := blk3 (HK3.out.below hA3.out HK3.out.lt)
      obtain ⟨x0, x1, x2, x3⟩ := blk4' (HK1.out.below hA3.out HK1.out.lt)
      go_wp2_with fail
      go_ret2
      exact ⟨by first | rfl | simp, HHB.out.trans (hA3.out.mono HHB.out.size)⟩
    · go_enter Tryd.func15, Tryd.ntmps15
      go_wp2_with fail
      refine (HC1.out _).mono ?_
      rintro e W1 ⟨rfl, hb⟩
      have hA1 := Lib.hid (hA0.out.trans (hb.mono hA0.out.size))
      clear hb
      obtain ⟨y0, y1, y2, y3, y4, y5, y6, y7⟩ := blk8 (HK2.out.below hA1.out HK2.out.lt)
      obtain ⟨s0, s1, s2⟩ := blk3 (HK3.out.below hA1.out HK3.out.lt)
      obtain ⟨x0, x1, x2, x3⟩ := blk4' (HK1.out.below hA1.out HK1.out.lt)
      go_wp2_with fail
      refine (HC2.out _).mono ?_
      rintro e W2 ⟨rfl, hb⟩
      have hA2 := Lib.hid (hA1.out.trans (hb.mono hA1.out.size))
      clear hb y0 y1 y2 y3 y4 y5 y6 y7 s0 s1 s2 x0 x1 x2 x3
      obtain ⟨y0, y1, y2, y3, y4, y5, y6, y7⟩ := blk8 (HK2.out.below hA2.out HK2.out.lt)
      obtain ⟨s0, s1, s2⟩ := blk3 (HK3.out.below hA2.out HK3.out.lt)
      obtain ⟨x0, x1, x2, x3⟩ := blk4' (HK1.out.below hA2.out HK1.out.lt)
      go_wp2_with fail
      refine (HC1.out _).mono ?_
      rintro e W3 ⟨rfl, hb⟩
      have hA3 := Lib.hid (hA2.out.trans (hb.mono hA2.out.size))
      clear hb y0 y1 y2 y3 y4 y5 y6 y7 s0 s1 s2 x0 x1 x2 x3
      obtain ⟨y0, y1, y2, y3, y4, y5, y6, y7⟩ := blk8 (HK2.out.below hA3.out HK2.out.lt)
      obtain ⟨s0, s1, s2⟩ := blk3 (HK3.out.below hA3.out HK3.out.lt)
      obtain ⟨x0, x1, x2, x3⟩ := blk4' (HK1.out.below hA3.out HK1.out.lt)
      go_wp2_with fail
      go_ret2
      exact ⟨by first | rfl | simp, HHB.out.trans (hA3.out.mono HHB.out.size)⟩
    · go_enter Tryd.func15, Tryd.ntmps15
      go_wp2_with fail
      refine (HC1.out _).mono ?_
      rintro e W1 ⟨rfl, hb⟩
      have hA1 := Lib.hid (hA0.out.trans (hb.mono hA0.out.size))
      clear hb
      obtain ⟨y0, y1, y2, y3, y4, y5, y6, y7⟩ := blk8 (HK2.out.below hA1.out HK2.out.lt)
      obtain ⟨s0, s1, s2⟩ := blk3 (HK3.out.below hA1.out HK3.out.lt)
      obtain ⟨x0, x1, x2, x3⟩ := blk4' (HK1.out.below hA1.out HK1.out.lt)
      go_wp2_with fail
      refine (HC2.out _).mono ?_
      rintro e W2 ⟨rfl, hb⟩
      have hA2 := Lib.hid (hA1.out.trans (hb.mono hA1.out.size))
      clear hb y0 y1 y2 y3 y4 y5 y6 y7 s0 s1 s2 x0 x1 x2 x3
      obtain ⟨y0, y1, y2, y3, y4, y5, y6, y7⟩ := blk8 (HK2.out.below hA2.out HK2.out.lt)
      obtain ⟨s0, s1, s2⟩ := blk3 (HK3.out.below hA2.out HK3.out.lt)
      obtain ⟨x0, x1, x2, x3⟩ := blk4' (HK1.out.below hA2.out HK1.out.lt)
      go_wp2_with fail
      refine (HC1.out _).mono ?_
      rintro e W3 ⟨rfl, hb⟩
      have hA3 := Lib.hid (hA2.out.trans (hb.mono hA2.out.size))
      clear hb y0 y1 y2 y3 y4 y5 y6 y7 s0 s1 s2 x0 x1 x2 x3
      obtain ⟨y0, y1, y2, y3, y4, y5, y6, y7⟩ := blk8 (HK2.out.below hA3.out HK2.out.lt)
      obtain ⟨s0, s1, s2⟩ := blk3 (HK3.out.below hA3.out HK3.out.lt)
      obtain ⟨x0, x1, x2, x3⟩ := blk4' (HK1.out.below hA3.out HK1.out.lt)
      go_wp2_with fail
      refine (HC2.out _).mono ?_
      rintro e W4 ⟨rfl, hb⟩
      have hA4 := Lib.hid (hA3.out.trans (hb.mono hA3.out.size))
      clear hb y0 y1 y2 y3 y4 y5 y6 y7 s0 s1 s2 x0 x1 x2 x3
      obtain ⟨y0, y1, y2, y3, y4, y5, y6, y7⟩ := blk8 (HK2.out.below hA4.out HK2.out.lt)
      obtain ⟨s0, s1, s2⟩ := blk3 (HK3.out.below hA4.out HK3.out.lt)
      obtain ⟨x0, x1, x2, x3⟩ := blk4' (HK1.out.below hA4.out HK1.out.lt)
      go_wp2_with fail
      go_ret2
      exact ⟨by first | rfl | simp, HHB.out.trans (hA4.out.mono HHB.out.size)⟩
end
end Go.Proofs.YtobophhlcekngaaDoor
