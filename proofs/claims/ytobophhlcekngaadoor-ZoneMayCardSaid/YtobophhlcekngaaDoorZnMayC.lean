/- Contract of the document's May of layer 17 at a predicate that names a column, under that of one. -/
import Derived.Lib.QuietBelow
import Derived.Deep.DeepCutAuto
import Derived.Deep.RegionLaw
import Derived.Deep.CutBlock
import Derived.Test.YtobophhlcekngaaDoorZnMay
namespace Go.Proofs.YtobophhlcekngaaDoor
open Go.RowKit
set_option linter.unusedVariables false
set_option linter.unusedSimpArgs false
set_option maxRecDepth 100000

/-- The document's one answers what may be. -/
def OneC : Prop := ∀ (W : World) (op col : Int) (A A' : Option Addr) (c n c' : Nat) (vals : List Vl) (z : Zn), Reads W W.heap.size 3 A vals.length (vs vals) → 1 ≤ op ∧ op ≤ 8 → frmZ op col vals.length n →
  Calls Tryd.prog 15 #[.agg #[.int .i64 op, .int .i64 col, .slice A vals.length c, .slice A' n c'], zW z] W fun e w' => e = .returned (.tuple #[.bool (oneZ op vals z).1, .bool (oneZ op vals z).2]) ∧ Below W.heap.size W w'
section
variable {w : World} {op rows : Int} {A A' Az : Option Addr} {c n c' m cz k : Nat} {vals : List Vl} {zl : List Zn}
set_option maxHeartbeats 4000000 in
theorem may_col (hO : OneC) (hr : 1 ≤ rows) (hop : 1 ≤ op ∧ op ≤ 8) (hf : frmZ op (k : Int) vals.length n) (hv : Reads w w.heap.size 3 A vals.length (vs vals)) (hz : Reads w w.heap.size 8 Az m (zcs zl)) (hk : k < m) {z : Zn} (hzk : zl[k]? = some z) :
    Calls Tryd.prog 6 #[.agg #[.int .i64 op, .int .i64 (k : Int), .slice A vals.length c, .slice A' n c'], .int .i64 rows, .slice Az m cz] w fun e w' => e = .returned (tW (if z.2.1 then (oneZ op vals z).2 else false, decide (0 < z.1), if z.2.1 then (oneZ op vals z).1 else false)) ∧ Below w.heap.size w w' := by
  obtain ⟨nl, so, ⟨m0, m1, zm⟩, ⟨n0, n1, zn⟩⟩ := z
  have d1 : decide (rows < 1) = false := by simp; omega
  have d2 : decide ((1 : Int) ≤ op) = true := by simp; omega
  have d3 : decide (op ≤ 9) = true := by simp; omega
  have d4 : decide ((k : Int) < 0) = false := by simp
  have d5 : decide ((m : Int) ≤ (k : Int)) = false := by simp; omega
  have d6 : (op == 0) = false := by simp; omega
  have d7 : (op == 9) = false := by simp; omega
  have HF := Lib.hid fun (W : World) => refFormed_any op (k : Int) A A' vals.length c n c' W
  rw [show decide (frmZ op (k : Int) vals.length n) = true by simpa using hf] at HF
  have HO := Lib.hid fun (W : World) (hb : Below w.heap.size w W) => hO W op (k : Int) A A' c n c' vals (nl, so, (m0, m1, zm), (n0, n1, zn)) ((hv.below hb).more hb.size) hop hf
  obtain ⟨⟨t, f⟩, htf⟩ : ∃ q, oneZ op vals (nl, so, (m0, m1, zm), (n0, n1, zn)) = q := ⟨_, rfl⟩
  rw [htf] at HO ⊢
  obtain ⟨L, hL⟩ : ∃ L, vals.length = L := ⟨_, rfl⟩
  rw [hL] at HF HO ⊢
  simp only [zW, tW] at HO ⊢
  obtain ⟨b, o, rfl, hb0, hc⟩ := hz.zone hzk
  have y0 := hc 0 (by omega); have y1 := hc 1 (by omega); have y2 := hc 2 (by omega); have y3 := hc 3 (by omega); have y4 := hc 4 (by omega); have y5 := hc 5 (by omega); have y6 := hc 6 (by omega); have y7 := hc 7 (by omega)
  simp only [zc, vc, List.cons_append, List.nil_append, List.getElem?_cons_succ, List.getElem?_cons_zero, Nat.add_zero] at y0 y1 y2 y3 y4 y5 y6 y7
  have K1 := Blk.new (w.alloc (.cells #[.int .i64 op, .int .i64 (k : Int), .slice A L c, .slice A' n c'] 25)) 29 #[.bool false, .bool false, .bool false]
  have K0 := (Blk.new w 25 #[.int .i64 op, .int .i64 (k : Int), .slice A L c, .slice A' n c']).alloc (.cells #[.bool false, .bool false, .bool false] 29)
  have HB := ((Below.refl w.heap.size w).alloc (Nat.le_refl _) (.cells #[.int .i64 op, .int .i64 (k : Int), .slice A L c, .slice A' n c'] 25)).alloc (by simp) (.cells #[.bool false, .bool false, .bool false] 29)
  rw [World.size_alloc] at K1
  have HK1 := Lib.hid K1; have HK0 := Lib.hid K0; have HHB := Lib.hid HB
  clear K1 K0 HB hf hr hO hv hz hzk hc hL htf hop
  cases so
  all_goals
    go_enter Tryd.func6, Tryd.ntmps6
    go_wp2_with fail
    refine (HF.out _).mono ?_
    rintro e w1 ⟨rfl, hb⟩
    have hb1 := HHB.out.trans (hb.mono HHB.out.size)
    have k1 := HK1.out.below hb HK1.out.lt
    have k0 := HK0.out.below hb HK0.out.lt
    obtain ⟨x0, x1, x2, x3⟩ := blk4' k0
    obtain ⟨r0, r1, r2⟩ := blk3 k1
    have z0 := k1.frozen 0; have z1 := k1.frozen 1; have z2 := k1.frozen 2
    have v0 := (hb1.cell hb0).trans y0; have v1 := (hb1.cell hb0).trans y1
    have HB1 := Lib.hid hb1; have HK2 := Lib.hid k1; have HK3 := Lib.hid k0
    clear hb hb1 k1 k0 HK1 HK0 HHB
  · obtain ⟨f1, f2⟩ := store3 HK2.out HB1.out (by omega) (.bool false) (.bool (decide (0 < nl))) (.bool false)
    have F1 := Lib.hid f1; have F2 := Lib.hid f2
    clear f1 f2 HO
    go_wp2_with fail
    exact bodyPost_ret (v := .agg #[.bool false, .bool (decide (0 < nl)), .bool false]) (results_cell_row rfl _ _ _ _ _ _ _ (by rfl) F1.out Tryd.underlying29 rfl (by kernel_rfl)) rfl ⟨by simp, F2.out⟩
  · go_upto_region 13 with fail
    have v2 := (HB1.out.cell hb0).trans y2; have v3 := (HB1.out.cell hb0).trans y3; have v4 := (HB1.out.cell hb0).trans y4; have v5 := (HB1.out.cell hb0).trans y5; have v6 := (HB1.out.cell hb0).trans y6; have v7 := (HB1.out.cell hb0).trans y7
    have a0 := cell_regrown v0; have a1 := cell_regrown v1; have a2 := cell_regrown v2; have a3 := cell_regrown v3; have a4 := cell_regrown v4; have a5 := cell_regrown v5; have a6 := cell_regrown v6; have a7 := cell_regrown v7
    have s0 := cell_regrown x0; have s1 := cell_regrown x1; have s2 := cell_regrown x2; have s3 := cell_regrown x3
    have g1 : Hid (Yields w1.heap.size w1 15 #[.agg #[.int .i64 op, .int .i64 (k : Int), .slice A L c, .slice A' n c'], .agg #[.int .i64 nl, .bool true, .int .i64 m0, .int .i64 m1, .string ⟨zm.toArray⟩, .int .i64 n0, .int .i64 n1, .string ⟨zn.toArray⟩]] (.tuple #[.bool t, .bool f])) := Lib.hid fun V hbV => (HO.out V (HB1.out.trans (hbV.mono HB1.out.size))).mono fun e w' ⟨he, hb'⟩ => ⟨he, hbV.trans (hb'.mono hbV.size)⟩
    clear HO r0 r1 r2 z0 z1 z2
    refine wp_region_quiet_below (by kernel_rfl) (by kernel_rfl) ?_
    repeat (go_big_quiet_step (first | (go_at_call 15; with_reducible exact g1.out.quiet _ _)))
    refine wpQuiet_nil ?_
    intro V hV
    have hbp : Below w1.heap.size w1 V := by obtain ⟨pp, e⟩ := hV; subst e; exact below_regrown w1 pp.d pp.os
    have hb2 := HB1.out.trans (hbp.mono HB1.out.size)
    have k1 := HK2.out.below hbp HK2.out.lt
    clear hV g1 a0 a1 a2 a3 a4 a5 a6 a7 s0 s1 s2 s3 x0 x1 x2 x3 v0 v1 v2 v3 v4 v5 v6 v7
    obtain ⟨x0, x1, x2, x3⟩ := blk4' (HK3.out.below hbp HK3.out.lt)
    obtain ⟨r0, r1, r2⟩ := blk3 k1
    have z0 := k1.frozen 0; have z1 := k1.frozen 1; have z2 := k1.frozen 2
    have v0 := (hb2.cell hb0).trans y0
    obtain ⟨f1, f2⟩ := store3 k1 hb2 (by omega) (.bool f) (.bool (decide (0 < nl))) (.bool t)
    have F1 := Lib.hid f1; have F2 := Lib.hid f2
    clear f1 f2 hbp hb2 k1
    go_wp2_with fail
    exact bodyPost_ret (v := .agg #[.bool f, .bool (decide (0 < nl)), .bool t]) (results_cell_row rfl _ _ _ _ _ _ _ (by rfl) F1.out Tryd.underlying29 rfl (by kernel_rfl)) rfl ⟨by simp, F2.out⟩
end
end Go.Proofs.YtobophhlcekngaaDoor
