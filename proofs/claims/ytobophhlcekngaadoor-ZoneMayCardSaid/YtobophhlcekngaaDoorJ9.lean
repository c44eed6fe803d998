/- Texts joined: ZnMayN ZnMayT. -/
import Derived.Lib.QuietBelow
import Derived.Deep.RegionLaw
import Derived.Test.YtobophhlcekngaaDoorZnMay
/- Contract of the document's May of layer 17 at PNull. -/
namespace Go.Proofs.YtobophhlcekngaaDoor
open Go.RowKit
set_option linter.unusedVariables false
set_option linter.unusedSimpArgs false
set_option maxRecDepth 100000

section
variable {w : World} {rows : Int} {A A' Az : Option Addr} {v c n c' m cz k : Nat} {zl : List Zn}
set_option maxHeartbeats 4000000 in
theorem may_null (hr : 1 ≤ rows) (hf : frmZ 9 (k : Int) v n) (hz : Reads w w.heap.size 8 Az m (zcs zl)) (hk : k < m) {z : Zn} (hzk : zl[k]? = some z) :
    Calls Tryd.prog 6 #[.agg #[.int .i64 9, .int .i64 (k : Int), .slice A v c, .slice A' n c'], .int .i64 rows, .slice Az m cz] w fun e w' => e = .returned (tW (decide (z.1 < rows), false, decide (0 < z.1))) ∧ Below w.heap.size w w' := by
  have d1 : decide (rows < 1) = false := by simp; omega
  have d4 : decide ((k : Int) < 0) = false := by simp
  have d5 : decide ((m : Int) ≤ (k : Int)) = false := by simp; omega
  have HF := Lib.hid fun (W : World) => refFormed_any 9 (k : Int) A A' v c n c' W
  rw [show decide (frmZ 9 (k : Int) v n) = true by simpa using hf] at HF
  simp only [tW]
  obtain ⟨b, o, rfl, hb0, hc⟩ := hz.zone hzk
  have y0 := hc 0 (by omega)
  simp only [zc, vc, List.cons_append, List.nil_append, List.getElem?_cons_zero, Nat.add_zero] at y0
  obtain ⟨nl, hnl⟩ : ∃ q, z.1 = q := ⟨_, rfl⟩
  rw [hnl] at y0 ⊢
  have K1 := Blk.new (w.alloc (.cells #[.int .i64 9, .int .i64 (k : Int), .slice A v c, .slice A' n c'] 25)) 29 #[.bool false, .bool false, .bool false]
  have K0 := (Blk.new w 25 #[.int .i64 9, .int .i64 (k : Int), .slice A v c, .slice A' n c']).alloc (.cells #[.bool false, .bool false, .bool false] 29)
  have HB := ((Below.refl w.heap.size w).alloc (Nat.le_refl _) (.cells #[.int .i64 9, .int .i64 (k : Int), .slice A v c, .slice A' n c'] 25)).alloc (by simp) (.cells #[.bool false, .bool false, .bool false] 29)
  rw [World.size_alloc] at K1
  have HK1 := Lib.hid K1; have HK0 := Lib.hid K0; have HHB := Lib.hid HB
  clear K1 K0 HB hf hr hz hzk hc hnl
  go_enter Tryd.func6, Tryd.ntmps6
  go_wp2_with fail
  refine (HF.out _).mono ?_
  rintro e w1 ⟨rfl, hb⟩
  have hb1 := HHB.out.trans (hb.mono HHB.out.size)
  have k1 := HK1.out.below hb HK1.out.lt
  have k0 := HK0.out.below hb HK0.out.lt
  obtain ⟨x0, x1, x2, x3⟩ := blk4' k0
  obtain ⟨r0, r1, r2⟩ := blk3 k1
  have z0 := k1.frozen 0; have z1 := k1.frozen 1; have z2 := k1.frozen 2
  have v0 := (hb1.cell hb0).trans y0
  obtain ⟨f1, f2⟩ := store3 k1 hb1 (by omega) (.bool (decide (nl < rows))) (.bool false) (.bool (decide (0 < nl)))
  have F1 := Lib.hid f1.drew; have F2 := Lib.hid f2.drew
  clear f1 f2 hb hb1 k1 k0 HK1 HK0 HHB
  go_upto_region 9 with fail
  go_region
  go_wp2_with fail
  exact bodyPost_ret (v := .agg #[.bool (decide (nl < rows)), .bool false, .bool (decide (0 < nl))]) (results_cell_row rfl _ _ _ _ _ _ _ (by rfl) F1.out Tryd.underlying29 rfl (by kernel_rfl)) rfl ⟨rfl, F2.out⟩
end
end Go.Proofs.YtobophhlcekngaaDoor

/- Contract of the document's May of layer 17 at PNot, under that of its part. -/
namespace Go.Proofs.YtobophhlcekngaaDoor
open Go.RowKit
set_option linter.unusedVariables false
set_option linter.unusedSimpArgs false
set_option maxRecDepth 100000

section
variable {w : World} {rows : Int} {A A' Az : Option Addr} {c c' m cz : Nat}
set_option maxHeartbeats 4000000 in
theorem may_not {b o : Nat} {g0 g1 g2 g3 : Value} {t : Tr3} (hr : 1 ≤ rows) (h0 : b < w.heap.size) (e0 : w.cell? ⟨b, o, none⟩ = some g0) (e1 : w.cell? ⟨b, o + 1, none⟩ = some g1) (e2 : w.cell? ⟨b, o + 2, none⟩ = some g2) (e3 : w.cell? ⟨b, o + 3, none⟩ = some g3) (ho : ∀ u ∈ [g0, g1, g2, g3], u.oneCell' = true)
    (IH : ∀ W, Below w.heap.size w W → Calls Tryd.prog 6 #[.agg #[g0, g1, g2, g3], .int .i64 rows, .slice Az m cz] W fun e w' => e = .returned (tW t) ∧ Below W.heap.size W w') :
    Calls Tryd.prog 6 #[.agg #[.int .i64 12, .int .i64 0, .slice A 0 c, .slice (some ⟨b, o, none⟩) 1 c'], .int .i64 rows, .slice Az m cz] w fun e w' => e = .returned (tW (t.2.2, t.2.1, t.1)) ∧ Below w.heap.size w w' := by
  obtain ⟨t0, t1, t2⟩ := t
  have d1 : decide (rows < 1) = false := by simp; omega
  have HF := Lib.hid fun (W : World) => refFormed_any 12 0 A (some ⟨b, o, none⟩) 0 c 1 c' W
  rw [show decide (frmZ 12 0 0 1) = true from by simp [frmZ]] at HF
  simp only [tW] at IH ⊢
  have HI := Lib.hid IH
  have f0 := ho g0 (by simp); have f1 := ho g1 (by simp); have f2 := ho g2 (by simp); have f3 := ho g3 (by simp)
  have K1 := Blk.new (w.alloc (.cells #[.int .i64 12, .int .i64 0, .slice A 0 c, .slice (some ⟨b, o, none⟩) 1 c'] 25)) 29 #[.bool false, .bool false, .bool false]
  have K0 := (Blk.new w 25 #[.int .i64 12, .int .i64 0, .slice A 0 c, .slice (some ⟨b, o, none⟩) 1 c']).alloc (.cells #[.bool false, .bool false, .bool false] 29)
  have HB := ((Below.refl w.heap.size w).alloc (Nat.le_refl _) (.cells #[.int .i64 12, .int .i64 0, .slice A 0 c, .slice (some ⟨b, o, none⟩) 1 c'] 25)).alloc (by simp) (.cells #[.bool false, .bool false, .bool false] 29)
  rw [World.size_alloc] at K1
  have HK1 := Lib.hid K1; have HK0 := Lib.hid K0; have HHB := Lib.hid HB
  clear K1 K0 HB hr IH ho
  go_enter Tryd.func6, Tryd.ntmps6
  go_wp2_with fail
  refine (HF.out _).mono ?_
  rintro e w1 ⟨rfl, hb⟩
  have hb1 := HHB.out.trans (hb.mono HHB.out.size)
  have k1 := HK1.out.below hb HK1.out.lt
  have k0 := HK0.out.below hb HK0.out.lt
  obtain ⟨x0, x1, x2, x3⟩ := blk4' k0
  have u0 := (hb1.cell h0).trans e0; have u1 := (hb1.cell h0).trans e1; have u2 := (hb1.cell h0).trans e2; have u3 := (hb1.cell h0).trans e3
  have HB1 := Lib.hid hb1; have HK2 := Lib.hid k1; have HK3 := Lib.hid k0
  clear hb hb1 k1 k0 HK1 HK0 HHB
  go_wp2_with fail
  refine (HI.out _ HB1.out).mono ?_
  rintro e w2 ⟨rfl, hb⟩
  have hb2 := (HB1.out.trans (hb.mono HB1.out.size)).alloc (HB1.out.trans (hb.mono HB1.out.size)).size (.cells #[.bool t0, .bool t1, .bool t2] 29)
  have k1 := (HK2.out.below hb HK2.out.lt).alloc (.cells #[.bool t0, .bool t1, .bool t2] 29)
  have k0 := (HK3.out.below hb HK3.out.lt).alloc (.cells #[.bool t0, .bool t1, .bool t2] 29)
  have k2 := Blk.new w2 29 #[.bool t0, .bool t1, .bool t2]
  clear x0 x1 x2 x3 u0 u1 u2 u3
  obtain ⟨x0, x1, x2, x3⟩ := blk4' k0
  obtain ⟨r0, r1, r2⟩ := blk3 k1
  obtain ⟨s0, s1, s2⟩ := blk3 k2
  have z0 := k1.frozen 0; have z1 := k1.frozen 1; have z2 := k1.frozen 2
  obtain ⟨p1, p2⟩ := store3 k1 hb2 (by omega) (.bool t2) (.bool t1) (.bool t0)
  have F1 := Lib.hid p1; have F2 := Lib.hid p2
  clear p1 p2 hb hb2 k1 k0 k2 HK2 HK3 HB1 HI HF
  go_wp2_with fail
  exact bodyPost_ret (v := .agg #[.bool t2, .bool t1, .bool t0]) (results_cell_row rfl _ _ _ _ _ _ _ (by rfl) F1.out Tryd.underlying29 rfl (by kernel_rfl)) rfl ⟨rfl, F2.out⟩
end
end Go.Proofs.YtobophhlcekngaaDoor
