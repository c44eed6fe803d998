/- Contract of a step's may at a predicate that names a column: which truths may be of a predicate, where these may be of its parts. -/
import Derived.Deep.RegionWith
import Derived.StillTailTactics
import Derived.Deep.QuietTactic
import Derived.Test.YtmjpjllbfgkfbaaDoorZwStep
namespace Go.Proofs.YtmjpjllbfgkfbaaDoor
open Go.RowKit
set_option linter.unusedVariables false
set_option linter.unusedSimpArgs false
set_option maxRecDepth 100000

section
variable {w : World} {b o nv cv np cp m cz n c : Nat} {op col rows : Int} {Av Ap Az A : Option Addr}
set_option maxHeartbeats 4000000 in
theorem step_col {k : Nat} {zl : List Zn} {z : Zn} {vals : List Vl} (h : Nd w b o op (k : Int) Av nv cv Ap np cp) (hv : Reads w w.heap.size 3 Av nv (vs vals)) (hop : 1 ≤ op ∧ op ≤ 8) (h1 : op ≤ 6 → nv = 1) (h7 : nv ≤ 65536) (h8 : op = 8 → nv = 2) (hz : Reads w w.heap.size 8 Az m (zcs zl)) (hk : k < m) (hzk : zl[k]? = some z) :
    Calls Tryd.prog 32 #[.agg #[.pointer (some ⟨b, o, none⟩), .bool true], .int .i64 rows, .slice Az m cz, .slice A n c] w fun e w' => e = .returned (tW ((if z.2.1 then ofZ op vals z.2.2.1 z.2.2.2 else (false, false)).2, decide (0 < z.1), (if z.2.1 then ofZ op vals z.2.2.1 z.2.2.2 else (false, false)).1)) ∧ Below w.heap.size w w' := by
  obtain ⟨hlt, x0, x1, x2, x3⟩ := h
  obtain ⟨k4, k8, hB⟩ := step_mem w (.pointer (some ⟨b, o, none⟩)) true false false false
  have u0 := (hB.cell (p := ⟨b, o, none⟩) hlt).trans x0; have u1 := (hB.cell (p := ⟨b, o + 1, none⟩) hlt).trans x1; have u2 := (hB.cell (p := ⟨b, o + 2, none⟩) hlt).trans x2
  have HK4 := Lib.hid k4; have HK8 := Lib.hid k8; have HB := Lib.hid hB
  have HC := Lib.hid fun (W : World) (hb : Below w.heap.size w W) => compared_any (c := cv) vals z ((hv.below hb).more hb.size) hop h1 h7 h8
  obtain ⟨⟨p0, p1, p2⟩, hp⟩ : ∃ p : Tr3, ((if z.2.1 then ofZ op vals z.2.2.1 z.2.2.2 else (false, false)).2, decide (0 < z.1), (if z.2.1 then ofZ op vals z.2.2.1 z.2.2.2 else (false, false)).1) = p := ⟨_, rfl⟩
  rw [hp] at HC ⊢
  obtain ⟨nl, so, ⟨m0, m1, zm⟩, ⟨n0, n1, zn⟩⟩ := z
  simp only [zW, tW] at HC ⊢
  obtain ⟨bz, oz, rfl, hbz, hc⟩ := hz.zone hzk
  have y0 := hc 0 (by omega); have y1 := hc 1 (by omega); have y2 := hc 2 (by omega); have y3 := hc 3 (by omega); have y4 := hc 4 (by omega); have y5 := hc 5 (by omega); have y6 := hc 6 (by omega); have y7 := hc 7 (by omega)
  simp only [zc, vc, List.cons_append, List.nil_append, List.getElem?_cons_succ, List.getElem?_cons_zero, Nat.add_zero] at y0 y1 y2 y3 y4 y5 y6 y7
  have w0 := (hB.cell (p := ⟨bz, oz + k * 8, none⟩) hbz).trans y0
  have w1 := (hB.cell (p := ⟨bz, oz + k * 8 + 1, none⟩) hbz).trans y1
  have w2 := (hB.cell (p := ⟨bz, oz + k * 8 + 2, none⟩) hbz).trans y2
  have w3 := (hB.cell (p := ⟨bz, oz + k * 8 + 3, none⟩) hbz).trans y3
  have w4 := (hB.cell (p := ⟨bz, oz + k * 8 + 4, none⟩) hbz).trans y4
  have w5 := (hB.cell (p := ⟨bz, oz + k * 8 + 5, none⟩) hbz).trans y5
  have w6 := (hB.cell (p := ⟨bz, oz + k * 8 + 6, none⟩) hbz).trans y6
  have w7 := (hB.cell (p := ⟨bz, oz + k * 8 + 7, none⟩) hbz).trans y7
  have d4 : decide ((k : Int) < 0) = false := by simp
  have d5 : decide ((m : Int) ≤ (k : Int)) = false := by simp; omega
  have e0 : (op == 0) = false := by simp; omega
  have e9 : (op == 9) = false := by simp; omega
  have e10 : (op == 10) = false := by simp; omega
  have e11 : (op == 11) = false := by simp; omega
  have e12 : (op == 12) = false := by simp; omega
  clear k4 k8 hB x0 x1 x2 x3 hv hp hc hz hzk y0 y1 y2 y3 y4 y5 y6 y7 hop h1 h7 h8
  obtain ⟨s0, s1⟩ := blk2 HK4.out
  go_enter Tryd.func32, Tryd.ntmps32
  go_upto_region 15 with fail
  obtain ⟨W, hW⟩ : ∃ q, (w.alloc (.cells #[.pointer (some ⟨b, o, none⟩), .bool true] 73)).alloc (.cells #[.bool false, .bool false, .bool false] 66) = q := ⟨_, rfl⟩
  rw [hW] at HK4 HK8 HB u0 u1 u2 w0 w1 w2 w3 w4 w5 w6 w7 s0 s1 ⊢
  clear hW
  refine wp_region_still_tail 18 (by kernel_rfl) (by kernel_rfl) ?_
  simp only [List.take_succ_cons, List.take_zero, List.drop_succ_cons, List.drop_zero]
  change wpStill _ _ W.drew _ _ _
  repeat still_step
  refine wpStill_nil ?_
  clear u0 u1 u2 w0 w1 w2 w3 w4 w5 w6 w7 s0 s1
  go_wp2_with fail
  refine (HC.out _ (below_drew HB.out)).mono ?_
  rintro e w1 ⟨rfl, hb⟩
  have k8 := HK8.out.drew.below hb HK8.out.lt
  obtain ⟨r0, r1, r2⟩ := blk3 k8
  have z0 := k8.frozen 0; have z1 := k8.frozen 1; have z2 := k8.frozen 2
  obtain ⟨f1, f2⟩ := store3 k8 ((below_drew HB.out).trans (hb.mono HB.out.size)) (by omega) (.bool p0) (.bool p1) (.bool p2)
  have F1 := Lib.hid f1; have F2 := Lib.hid f2
  clear f1 f2 k8 hb HC HB HK8 HK4
  go_wp2_with fail
  exact bodyPost_ret (v := .agg #[.bool p0, .bool p1, .bool p2]) (results_cell_row rfl _ _ _ _ _ _ _ (by rfl) F1.out Tryd.underlying66 rfl (by kernel_rfl)) rfl ⟨by first | rfl | simp, F2.out⟩
end
end Go.Proofs.YtmjpjllbfgkfbaaDoor
