/- Contract of a step's may: which truths may be of a predicate, where these may be of its parts. -/
import Derived.Deep.RegionWith
import Derived.Deep.QuietTactic
import Derived.Test.YtmjpjllbfgkfbaaDoorJ7
import Derived.Test.YtmjpjllbfgkfbaaDoorZwCmpd
import Derived.Test.YtmjpjllbfgkfbaaDoorJ3
namespace Go.Proofs.YtmjpjllbfgkfbaaDoor
open Go.RowKit
set_option linter.unusedVariables false
set_option linter.unusedSimpArgs false
set_option maxRecDepth 100000

theorem blk2 {w : World} {g : Nat} {t : TypeId} {a b : Value} (h : Blk w g t #[a, b]) : w.cell? ⟨g, 0, none⟩ = some a ∧ w.cell? ⟨g, 1, none⟩ = some b := ⟨h.cell 0, h.cell 1⟩
/-- What a step's may makes first. -/
theorem step_mem (w : World) (v : Value) (d : Bool) (x y z : Bool) :
    Blk ((w.alloc (.cells #[v, .bool d] 73)).alloc (.cells #[.bool x, .bool y, .bool z] 66)) w.heap.size 73 #[v, .bool d] ∧
    Blk ((w.alloc (.cells #[v, .bool d] 73)).alloc (.cells #[.bool x, .bool y, .bool z] 66)) (w.heap.size + 1) 66 #[.bool x, .bool y, .bool z] ∧
    Below w.heap.size w ((w.alloc (.cells #[v, .bool d] 73)).alloc (.cells #[.bool x, .bool y, .bool z] 66)) := by
  have k1 := (Blk.new w 73 #[v, .bool d]).alloc (.cells #[.bool x, .bool y, .bool z] 66)
  have k2 := Blk.new (w.alloc (.cells #[v, .bool d] 73)) 66 #[.bool x, .bool y, .bool z]
  rw [World.size_alloc] at k2
  exact ⟨k1, k2, ((Below.refl w.heap.size w).alloc (Nat.le_refl _) _).alloc (by simp) _⟩
section
variable {w : World} {b o nv cv np cp m cz n c : Nat} {op col rows : Int} {Av Ap Az A : Option Addr}
set_option maxHeartbeats 4000000 in
theorem step_no (h0 : b < w.heap.size) :
    Calls Tryd.prog 32 #[.agg #[.pointer (some ⟨b, o, none⟩), .bool false], .int .i64 rows, .slice Az m cz, .slice A n c] w fun e w' => e = .returned (tW (true, true, true)) ∧ Below w.heap.size w w' := by
  obtain ⟨_, f1, f2⟩ := step_mem w (.pointer (some ⟨b, o, none⟩)) false true true true
  have F1 := Lib.hid f1; have F2 := Lib.hid f2
  clear f1 f2
  simp only [tW]
  go_enter Tryd.func32, Tryd.ntmps32
  go_wp2_with fail
  exact bodyPost_ret (v := .agg #[.bool true, .bool true, .bool true]) (results_cell_row rfl _ _ _ _ _ _ _ (by rfl) F1.out Tryd.underlying66 rfl (by kernel_rfl)) rfl ⟨by first | rfl | simp, F2.out⟩
set_option maxHeartbeats 4000000 in
theorem step_0 (h : Nd w b o 0 col Av nv cv Ap np cp) :
    Calls Tryd.prog 32 #[.agg #[.pointer (some ⟨b, o, none⟩), .bool true], .int .i64 rows, .slice Az m cz, .slice A n c] w fun e w' => e = .returned (tW (false, false, true)) ∧ Below w.heap.size w w' := by
  obtain ⟨hlt, x0, x1, x2, x3⟩ := h
  obtain ⟨k4, k8, hB⟩ := step_mem w (.pointer (some ⟨b, o, none⟩)) true false false false
  have u0 := (hB.cell (p := ⟨b, o, none⟩) hlt).trans x0; have u1 := (hB.cell (p := ⟨b, o + 1, none⟩) hlt).trans x1; have u2 := (hB.cell (p := ⟨b, o + 2, none⟩) hlt).trans x2
  have HK4 := Lib.hid k4; have HK8 := Lib.hid k8; have HB := Lib.hid hB
  obtain ⟨_, f1, f2⟩ := step_mem w (.pointer (some ⟨b, o, none⟩)) true false false true
  have F1 := Lib.hid f1; have F2 := Lib.hid f2
  clear f1 f2 k4 k8 hB x0 x1 x2 x3
  simp only [tW]
  obtain ⟨s0, s1⟩ := blk2 HK4.out
  obtain ⟨r0, r1, r2⟩ := blk3 HK8.out
  have z0 := HK8.out.frozen 0; have z1 := HK8.out.frozen 1; have z2 := HK8.out.frozen 2
  go_enter Tryd.func32, Tryd.ntmps32
  go_wp2_with fail
  exact bodyPost_ret (v := .agg #[.bool false, .bool false, .bool true]) (results_cell_row rfl _ _ _ _ _ _ _ (by rfl) F1.out Tryd.underlying66 rfl (by kernel_rfl)) rfl ⟨by first | rfl | simp, F2.out⟩
set_option maxHeartbeats 4000000 in
theorem step_9 {k : Nat} {zl : List Zn} {z : Zn} (h : Nd w b o 9 (k : Int) Av nv cv Ap np cp) (hz : Reads w w.heap.size 8 Az m (zcs zl)) (hk : k < m) (hzk : zl[k]? = some z) :
    Calls Tryd.prog 32 #[.agg #[.pointer (some ⟨b, o, none⟩), .bool true], .int .i64 rows, .slice Az m cz, .slice A n c] w fun e w' => e = .returned (tW (decide (z.1 < rows), false, decide (0 < z.1))) ∧ Below w.heap.size w w' := by
  obtain ⟨hlt, x0, x1, x2, x3⟩ := h
  obtain ⟨k4, k8, hB⟩ := step_mem w (.pointer (some ⟨b, o, none⟩)) true false false false
  have u0 := (hB.cell (p := ⟨b, o, none⟩) hlt).trans x0; have u1 := (hB.cell (p := ⟨b, o + 1, none⟩) hlt).trans x1; have u2 := (hB.cell (p := ⟨b, o + 2, none⟩) hlt).trans x2
  have HK4 := Lib.hid k4; have HK8 := Lib.hid k8; have HB := Lib.hid hB
  obtain ⟨bz, oz, rfl, hbz, hc⟩ := hz.zone hzk
  have y0 := hc 0 (by omega)
  simp only [zc, vc, List.cons_append, List.nil_append, List.getElem?_cons_zero, Nat.add_zero] at y0
  have y1 := (hB.cell (p := ⟨bz, oz + k * 8, none⟩) hbz).trans y0
  obtain ⟨nl, hnl⟩ : ∃ q, z.1 = q := ⟨_, rfl⟩
  rw [hnl] at y1 ⊢
  obtain ⟨_, f1, f2⟩ := step_mem w (.pointer (some ⟨b, o, none⟩)) true (decide (nl < rows)) false (decide (0 < nl))
  have F1 := Lib.hid f1; have F2 := Lib.hid f2
  have d4 : decide ((k : Int) < 0) = false := by simp
  have d5 : decide ((m : Int) ≤ (k : Int)) = false := by simp; omega
  clear f1 f2 k4 k8 hB x0 x1 x2 x3 y0 hnl hc hz hzk
  simp only [tW]
  obtain ⟨s0, s1⟩ := blk2 HK4.out
  obtain ⟨r0, r1, r2⟩ := blk3 HK8.out
  have z0 := HK8.out.frozen 0; have z1 := HK8.out.frozen 1; have z2 := HK8.out.frozen 2
  go_enter Tryd.func32, Tryd.ntmps32
  go_wp2_with fail
  exact bodyPost_ret (v := .agg #[.bool (decide (nl < rows)), .bool false, .bool (decide (0 < nl))]) (results_cell_row rfl _ _ _ _ _ _ _ (by rfl) F1.out Tryd.underlying66 rfl (by kernel_rfl)) rfl ⟨by first | rfl | simp, F2.out⟩
set_option maxHeartbeats 4000000 in
theorem step_10 {t : Tr3} {ts : List Tr3} (h : Nd w b o 10 col Av nv cv Ap np cp) (hr : Reads w w.heap.size 3 A n (bs3 (t :: ts))) (hn : n ≤ c) (hm : n ≤ 65536) :
    Calls Tryd.prog 32 #[.agg #[.pointer (some ⟨b, o, none⟩), .bool true], .int .i64 rows, .slice Az m cz, .slice A n c] w fun e w' => e = .returned (tW (ts.foldl (jn3 10) t)) ∧ Below w.heap.size w w' := by
  obtain ⟨hlt, x0, x1, x2, x3⟩ := h
  obtain ⟨k4, k8, hB⟩ := step_mem w (.pointer (some ⟨b, o, none⟩)) true false false false
  have u0 := (hB.cell (p := ⟨b, o, none⟩) hlt).trans x0; have u1 := (hB.cell (p := ⟨b, o + 1, none⟩) hlt).trans x1; have u2 := (hB.cell (p := ⟨b, o + 2, none⟩) hlt).trans x2
  have HK4 := Lib.hid k4; have HK8 := Lib.hid k8; have HB := Lib.hid hB
  have HC := Lib.hid fun (W : World) (hb : Below w.heap.size w W) => chosen_min t ts ((hr.below hb).more hb.size) hn hm
  obtain ⟨⟨p0, p1, p2⟩, hp⟩ : ∃ p, ts.foldl (jn3 10) t = p := ⟨_, rfl⟩
  rw [hp] at HC ⊢
  simp only [tW] at HC ⊢
  clear k4 k8 hB x0 x1 x2 x3 hr hp
  obtain ⟨s0, s1⟩ := blk2 HK4.out
  go_enter Tryd.func32, Tryd.ntmps32
  go_wp2_with fail
  refine (HC.out _ HB.out).mono ?_
  rintro e w1 ⟨rfl, hb⟩
  have k8 := HK8.out.below hb HK8.out.lt
  obtain ⟨r0, r1, r2⟩ := blk3 k8
  have z0 := k8.frozen 0; have z1 := k8.frozen 1; have z2 := k8.frozen 2
  obtain ⟨f1, f2⟩ := store3 k8 (HB.out.trans (hb.mono HB.out.size)) (by omega) (.bool p0) (.bool p1) (.bool p2)
  have F1 := Lib.hid f1; have F2 := Lib.hid f2
  clear f1 f2 k8 hb HC HB HK8 HK4 s0 s1
  go_wp2_with fail
  exact bodyPost_ret (v := .agg #[.bool p0, .bool p1, .bool p2]) (results_cell_row rfl _ _ _ _ _ _ _ (by rfl) F1.out Tryd.underlying66 rfl (by kernel_rfl)) rfl ⟨by first | rfl | simp, F2.out⟩
set_option maxHeartbeats 4000000 in
theorem step_11 {t : Tr3} {ts : List Tr3} (h : Nd w b o 11 col Av nv cv Ap np cp) (hr : Reads w w.heap.size 3 A n (bs3 (t :: ts))) (hn : n ≤ c) (hm : n ≤ 65536) :
    Calls Tryd.prog 32 #[.agg #[.pointer (some ⟨b, o, none⟩), .bool true], .int .i64 rows, .slice Az m cz, .slice A n c] w fun e w' => e = .returned (tW (ts.foldl (jn3 11) t)) ∧ Below w.heap.size w w' := by
  obtain ⟨hlt, x0, x1, x2, x3⟩ := h
  obtain ⟨k4, k8, hB⟩ := step_mem w (.pointer (some ⟨b, o, none⟩)) true false false false
  have u0 := (hB.cell (p := ⟨b, o, none⟩) hlt).trans x0; have u1 := (hB.cell (p := ⟨b, o + 1, none⟩) hlt).trans x1; have u2 := (hB.cell (p := ⟨b, o + 2, none⟩) hlt).trans x2
  have HK4 := Lib.hid k4; have HK8 := Lib.hid k8; have HB := Lib.hid hB
  have HC := Lib.hid fun (W : World) (hb : Below w.heap.size w W) => chosen_max t ts ((hr.below hb).more hb.size) hn hm
  obtain ⟨⟨p0, p1, p2⟩, hp⟩ : ∃ p, ts.foldl (jn3 11) t = p := ⟨_, rfl⟩
  rw [hp] at HC ⊢
  simp only [tW] at HC ⊢
  clear k4 k8 hB x0 x1 x2 x3 hr hp
  obtain ⟨s0, s1⟩ := blk2 HK4.out
  go_enter Tryd.func32, Tryd.ntmps32
  go_wp2_with fail
  refine (HC.out _ HB.out).mono ?_
  rintro e w1 ⟨rfl, hb⟩
  have k8 := HK8.out.below hb HK8.out.lt
  obtain ⟨r0, r1, r2⟩ := blk3 k8
  have z0 := k8.frozen 0; have z1 := k8.frozen 1; have z2 := k8.frozen 2
  obtain ⟨f1, f2⟩ := store3 k8 (HB.out.trans (hb.mono HB.out.size)) (by omega) (.bool p0) (.bool p1) (.bool p2)
  have F1 := Lib.hid f1; have F2 := Lib.hid f2
  clear f1 f2 k8 hb HC HB HK8 HK4 s0 s1
  go_wp2_with fail
  exact bodyPost_ret (v := .agg #[.bool p0, .bool p1, .bool p2]) (results_cell_row rfl _ _ _ _ _ _ _ (by rfl) F1.out Tryd.underlying66 rfl (by kernel_rfl)) rfl ⟨by first | rfl | simp, F2.out⟩
set_option maxHeartbeats 4000000 in
theorem step_12 {t0 t1 t2 : Bool} {ts : List Tr3} (h : Nd w b o 12 col Av nv cv Ap np cp) (hr : Reads w w.heap.size 3 A n (bs3 ((t0, t1, t2) :: ts))) (hn : 1 ≤ n) :
    Calls Tryd.prog 32 #[.agg #[.pointer (some ⟨b, o, none⟩), .bool true], .int .i64 rows, .slice Az m cz, .slice A n c] w fun e w' => e = .returned (tW (t2, t1, t0)) ∧ Below w.heap.size w w' := by
  obtain ⟨hlt, x0, x1, x2, x3⟩ := h
  obtain ⟨k4, k8, hB⟩ := step_mem w (.pointer (some ⟨b, o, none⟩)) true false false false
  have u0 := (hB.cell (p := ⟨b, o, none⟩) hlt).trans x0; have u1 := (hB.cell (p := ⟨b, o + 1, none⟩) hlt).trans x1; have u2 := (hB.cell (p := ⟨b, o + 2, none⟩) hlt).trans x2
  have HK4 := Lib.hid k4; have HK8 := Lib.hid k8; have HB := Lib.hid hB
  obtain ⟨g, i, rfl, hg, v0, v1, v2⟩ := hr.tru (show ((t0, t1, t2) :: ts)[0]? = some (t0, t1, t2) from rfl)
  rw [Nat.zero_mul, Nat.add_zero] at v0 v1 v2
  have a0 := (hB.cell (p := ⟨g, i, none⟩) hg).trans v0; have a1 := (hB.cell (p := ⟨g, i + 1, none⟩) hg).trans v1; have a2 := (hB.cell (p := ⟨g, i + 2, none⟩) hg).trans v2
  obtain ⟨_, f1, f2⟩ := step_mem w (.pointer (some ⟨b, o, none⟩)) true t2 t1 t0
  have F1 := Lib.hid f1.drew; have F2 := Lib.hid (below_drew f2)
  clear f1 f2 k4 k8 hB x0 x1 x2 x3 hr v0 v1 v2
  simp only [tW]
  obtain ⟨s0, s1⟩ := blk2 HK4.out
  obtain ⟨r0, r1, r2⟩ := blk3 HK8.out
  have z0 := HK8.out.frozen 0; have z1 := HK8.out.frozen 1; have z2 := HK8.out.frozen 2
  go_enter Tryd.func32, Tryd.ntmps32
  go_upto_region 14 with fail
  go_region
  go_wp2_with fail
  exact bodyPost_ret (v := .agg #[.bool t2, .bool t1, .bool t0]) (results_cell_row rfl _ _ _ _ _ _ _ (by rfl) F1.out Tryd.underlying66 rfl (by kernel_rfl)) rfl ⟨by first | rfl | simp, F2.out⟩
end
end Go.Proofs.YtmjpjllbfgkfbaaDoor
