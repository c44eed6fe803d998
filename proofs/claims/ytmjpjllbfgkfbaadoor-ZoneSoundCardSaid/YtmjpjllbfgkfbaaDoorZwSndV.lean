/- zone's Sound at the zone of values that may stand in a column: it is sound. Nothing that was there changes. -/
import Derived.Test.YtmjpjllbfgkfbaaDoorJ9
import Derived.Test.YtmjpjllbfgkfbaaDoorZwOfV
namespace Go.Proofs.YtmjpjllbfgkfbaaDoor
open Go.RowKit
set_option linter.unusedVariables false
set_option linter.unusedSimpArgs false
set_option maxRecDepth 100000

set_option maxHeartbeats 1000000 in
theorem repeat_k (kd : Int) {w : World} {g : Nat} (hb : Blk w g 43 #[.int .i64 kd, .bool false, .int .i64 0]) :
    Calls Tryd.prog 21 #[.slice (some ⟨g, 0, none⟩) 1 1, .int .i64 2] w fun e w' => e = .returned (.slice (some ⟨w.heap.size, 0, none⟩) 2 2) ∧ Blk w' w.heap.size 43 #[.int .i64 kd, .bool false, .int .i64 0, .int .i64 kd, .bool false, .int .i64 0] ∧ Below w.heap.size w w' := by
  have H := Lib.hid mul_12
  have hmk : ∀ W : World, (Instr.makeSlice 22 (.int .i64 2) (.int .i64 2)).run Tryd.prog W = .ok (.slice (some ⟨W.heap.size, 0, none⟩) 2 2) (W.alloc (.cells #[.int .i64 0, .bool false, .int .i64 0, .int .i64 0, .bool false, .int .i64 0] 43)) := fun W => run_make_cols 2 (by omega) W
  have k0 := Blk.new w 43 #[.int .i64 0, .bool false, .int .i64 0, .int .i64 0, .bool false, .int .i64 0]
  have b0 := (Below.refl w.heap.size w).alloc (Nat.le_refl _) (.cells #[.int .i64 0, .bool false, .int .i64 0, .int .i64 0, .bool false, .int .i64 0] 43)
  have kg := hb.alloc (.cells #[.int .i64 0, .bool false, .int .i64 0, .int .i64 0, .bool false, .int .i64 0] 43)
  have c1 := run_copy3 (w.alloc (.cells #[.int .i64 0, .bool false, .int .i64 0, .int .i64 0, .bool false, .int .i64 0] 43)) w.heap.size 0 2 2 ⟨g, 0, none⟩ 1 1 _ _ 3 [.int .i64 kd, .bool false, .int .i64 0] k0 rfl (fun j v hj => by rw [plain_add, Nat.zero_add, kg.cell j]; simpa using hj) (by simp) (by intro v hv; simp only [List.mem_cons, List.not_mem_nil, or_false] at hv; rcases hv with rfl | rfl | rfl <;> rfl)
  have hcp1 : (Builtin.copy_ #[22, 22] 3 #[.slice (some ⟨w.heap.size, 0, none⟩) 2 2, .slice (some ⟨g, 0, none⟩) 1 1]).run Tryd.prog (w.alloc (.cells #[.int .i64 0, .bool false, .int .i64 0, .int .i64 0, .bool false, .int .i64 0] 43)) = .ok (.int .i64 1) ((w.alloc (.cells #[.int .i64 0, .bool false, .int .i64 0, .int .i64 0, .bool false, .int .i64 0] 43)).setRow w.heap.size #[.int .i64 kd, .bool false, .int .i64 0, .int .i64 0, .bool false, .int .i64 0]) := c1
  have k1 : Blk ((w.alloc (.cells #[.int .i64 0, .bool false, .int .i64 0, .int .i64 0, .bool false, .int .i64 0] 43)).setRow w.heap.size #[.int .i64 kd, .bool false, .int .i64 0, .int .i64 0, .bool false, .int .i64 0]) w.heap.size 43 #[.int .i64 kd, .bool false, .int .i64 0, .int .i64 0, .bool false, .int .i64 0] := setRow_heap _ _ _ _ _ _ k0
  have g1 := b0.trans ((below_setRow (w.alloc (.cells #[.int .i64 0, .bool false, .int .i64 0, .int .i64 0, .bool false, .int .i64 0] 43)) w.heap.size #[.int .i64 kd, .bool false, .int .i64 0, .int .i64 0, .bool false, .int .i64 0]).mono (Nat.le_refl _))
  obtain ⟨W1, hW1⟩ : ∃ q, (w.alloc (.cells #[.int .i64 0, .bool false, .int .i64 0, .int .i64 0, .bool false, .int .i64 0] 43)).setRow w.heap.size #[.int .i64 kd, .bool false, .int .i64 0, .int .i64 0, .bool false, .int .i64 0] = q := ⟨_, rfl⟩
  rw [hW1] at hcp1 k1 g1
  have c2 := run_copy3 W1.drew w.heap.size 3 1 1 ⟨w.heap.size, 0, none⟩ 1 2 _ _ 3 [.int .i64 kd, .bool false, .int .i64 0] k1.drew rfl (fun j v hj => by
    rw [plain_add, Nat.zero_add, k1.drew.cell j]
    have hl : j < 3 := by simpa using (List.getElem?_eq_some_iff.1 hj).1
    have h3 : j = 0 ∨ j = 1 ∨ j = 2 := by omega
    rcases h3 with rfl | rfl | rfl <;> simpa using hj) (by simp) (by intro v hv; simp only [List.mem_cons, List.not_mem_nil, or_false] at hv; rcases hv with rfl | rfl | rfl <;> rfl)
  have hcp2 : (Builtin.copy_ #[22, 22] 3 #[.slice (some ⟨w.heap.size, 3, none⟩) 1 1, .slice (some ⟨w.heap.size, 0, none⟩) 1 2]).run Tryd.prog W1.drew = .ok (.int .i64 1) (W1.drew.setRow w.heap.size #[.int .i64 kd, .bool false, .int .i64 0, .int .i64 kd, .bool false, .int .i64 0]) := c2
  have k2 : Blk (W1.drew.setRow w.heap.size #[.int .i64 kd, .bool false, .int .i64 0, .int .i64 kd, .bool false, .int .i64 0]) w.heap.size 43 #[.int .i64 kd, .bool false, .int .i64 0, .int .i64 kd, .bool false, .int .i64 0] := setRow_heap _ _ _ _ _ _ k1.drew
  have g2 := (below_drewR g1).trans ((below_setRow W1.drew w.heap.size #[.int .i64 kd, .bool false, .int .i64 0, .int .i64 kd, .bool false, .int .i64 0]).mono (Nat.le_refl _))
  have HK2 := Lib.hid k2; have HG2 := Lib.hid g2
  clear k0 b0 kg c1 c2 k1 g1 hb k2 g2 hW1
  go_enter Tryd.func21, Tryd.ntmps21
  go_wp2_with fail
  refine (H.out _).mono ?_
  rintro e w1 ⟨rfl, rfl⟩
  go_wp2_with fail
  go_loopw [8] (fun s wr => (s = .int .i64 1 ∧ wr = W1) ∨ (s = .int .i64 2 ∧ Blk wr w.heap.size 43 #[.int .i64 kd, .bool false, .int .i64 0, .int .i64 kd, .bool false, .int .i64 0] ∧ Below w.heap.size w wr)) (fun s _ => 2 - (intOf s).toNat)
  case atStart => exact .inl ⟨rfl, rfl⟩
  case round =>
    rcases hrel with ⟨rfl, rfl⟩ | ⟨rfl, k, hb⟩
    · go_wp2_with fail
      go_region
      go_wp2_with fail
      go_round
      case rel => exact .inr ⟨rfl, HK2.out, HG2.out⟩
      case measure => simp [intOf]
    · clear hcp1 hcp2
      go_wp2_with fail
      go_ret
      exact ⟨rfl, k, hb⟩
set_option maxHeartbeats 2000000 in
theorem soundV_some {n0 rows kd a0 a1 b0 b1 : Int} {az bz : Tx} (h0 : 0 ≤ n0) (h1 : n0 < rows) (hcv : cmpV (a0, a1, az) (b0, b1, bz) ≤ 0) (hre : rwE [(kd, false, 0), (kd, false, 0)] [(a0, a1, az), (b0, b1, bz)] = 0) (w : World) :
    Calls Tryd.prog 11 #[.agg #[.int .i64 n0, .bool true, .int .i64 a0, .int .i64 a1, .string ⟨az.toArray⟩, .int .i64 b0, .int .i64 b1, .string ⟨bz.toArray⟩], .int .i64 rows, .int .i64 kd] w fun e w' => e = .returned (.bool true) ∧ Below w.heap.size w w' := by
  have hc := cmpC_any (a0, a1, az) (b0, b1, bz)
  obtain ⟨d, hd⟩ : ∃ d, cmpV (a0, a1, az) (b0, b1, bz) = d := ⟨_, rfl⟩
  rw [hd] at hc hcv
  have d0 : decide (n0 < 0) = false := by simp; omega
  have d1 : decide (rows < n0) = false := by simp; omega
  have d2 : decide (n0 < rows) = true := by simp; omega
  have d3 : decide (0 < d) = false := by simp; omega
  have HC := Lib.hid hc
  have HRE := Lib.hid hre
  clear hd hre
  have kz := Blk.new w 39 #[.int .i64 n0, .bool true, .int .i64 a0, .int .i64 a1, .string ⟨az.toArray⟩, .int .i64 b0, .int .i64 b1, .string ⟨bz.toArray⟩]
  have hb := (Below.refl w.heap.size w).alloc (Nat.le_refl _) (.cells #[.int .i64 n0, .bool true, .int .i64 a0, .int .i64 a1, .string ⟨az.toArray⟩, .int .i64 b0, .int .i64 b1, .string ⟨bz.toArray⟩] 39)
  have HZ := Lib.hid kz; have HB := Lib.hid hb
  clear hc kz hb
  go_enter Tryd.func11, Tryd.ntmps11
  go_wp2_with fail
  refine (HC.out _).mono ?_
  rintro e w1 ⟨rfl, hb1⟩
  have kz1 := HZ.out.below hb1 HZ.out.lt
  have hbw := HB.out.trans (hb1.mono HB.out.size)
  obtain ⟨y0, y1, y2, y3, y4, y5, y6, y7⟩ := blk8 kz1
  have kv := Blk.new w1 37 #[.int .i64 a0, .int .i64 a1, .string ⟨az.toArray⟩, .int .i64 b0, .int .i64 b1, .string ⟨bz.toArray⟩]
  have hB1 := (Below.refl w1.heap.size w1).alloc (Nat.le_refl _) (.cells #[.int .i64 a0, .int .i64 a1, .string ⟨az.toArray⟩, .int .i64 b0, .int .i64 b1, .string ⟨bz.toArray⟩] 37)
  have kc := Blk.new (w1.alloc (.cells #[.int .i64 a0, .int .i64 a1, .string ⟨az.toArray⟩, .int .i64 b0, .int .i64 b1, .string ⟨bz.toArray⟩] 37)) 43 #[.int .i64 kd, .bool false, .int .i64 0]
  have hB2 := hB1.alloc hB1.size (.cells #[.int .i64 kd, .bool false, .int .i64 0] 43)
  have kv2 := kv.alloc (.cells #[.int .i64 kd, .bool false, .int .i64 0] 43)
  rw [World.size_alloc] at kc
  have hr := repeat_k kd kc
  have hsz : ((w1.alloc (.cells #[.int .i64 a0, .int .i64 a1, .string ⟨az.toArray⟩, .int .i64 b0, .int .i64 b1, .string ⟨bz.toArray⟩] 37)).alloc (.cells #[.int .i64 kd, .bool false, .int .i64 0] 43)).heap.size = w1.heap.size + 1 + 1 := by rw [World.size_alloc, World.size_alloc]
  rw [hsz] at hr
  have HR := Lib.hid hr
  have HV := Lib.hid kv2; have HW := Lib.hid (hbw.trans (hB2.mono hbw.size))
  clear hb1 kz1 hbw kv hB1 kc hB2 kv2 HC HZ HB
  go_wp2_with fail
  refine HR.out.mono ?_
  rintro e w2 ⟨rfl, kr, hb2⟩
  have kv3 := HV.out.below hb2 (by have := HV.out.lt; rw [hsz] at this; exact this)
  have hs := reads_blkZ kr (n := 2) (s := 3) (xs := cls [(kd, false, 0), (kd, false, 0)]) rfl
  have hv := reads_blkZ kv3 (n := 2) (s := 3) (xs := vs [(a0, a1, az), (b0, b1, bz)]) rfl
  have hrow := rowV_any _ _ 2 2 2 2 [(kd, false, 0), (kd, false, 0)] [(a0, a1, az), (b0, b1, bz)] w2 hs hv (by omega) (by omega)
  rw [HRE.out] at hrow
  have HROW := Lib.hid hrow
  have HW2 := Lib.hid (HW.out.trans (hb2.mono (by have := HW.out.size; rw [hsz] at this; exact this)))
  clear kr hb2 kv3 hs hv hrow HR HV HW hsz
  go_wp2_with fail
  refine HROW.out.mono ?_
  rintro e w3 ⟨rfl, hb3⟩
  go_wp2_with fail
  go_ret
  exact ⟨by first | rfl | simp, HW2.out.trans (hb3.mono HW2.out.size)⟩
theorem soundV_none {n0 : Int} (h0 : 0 ≤ n0) (kd : Int) (w : World) :
    Calls Tryd.prog 11 #[.agg #[.int .i64 n0, .bool false, .int .i64 0, .int .i64 0, .string ⟨#[]⟩, .int .i64 0, .int .i64 0, .string ⟨#[]⟩], .int .i64 n0, .int .i64 kd] w fun e w' => e = .returned (.bool true) ∧ Below w.heap.size w w' := by
  have d0 : decide (n0 < 0) = false := by simp; omega
  have hb := (Below.refl w.heap.size w).alloc (Nat.le_refl _) (.cells #[.int .i64 n0, .bool false, .int .i64 0, .int .i64 0, .string ⟨#[]⟩, .int .i64 0, .int .i64 0, .string ⟨#[]⟩] 39)
  have HB := Lib.hid hb
  clear hb
  go_enter Tryd.func11, Tryd.ntmps11
  go_wp2_with fail
  go_ret
  exact ⟨by first | rfl | simp, HB.out⟩
/-- Sound of the zone of values that may stand in the column. -/
theorem soundV_any {l : List Vl} {z : Zn} (h : OfZ l z) {kind : Int} (hk : kind = 1 ∨ kind = 2) (hf : ∀ v ∈ l, fitZ kind v) (w : World) :
    Calls Tryd.prog 11 #[zW z, .int .i64 (l.length : Int), .int .i64 kind] w fun e w' => e = .returned (.bool true) ∧ Below w.heap.size w w' := by
  have hr := h.range
  have hl := h.less
  have hs := h.some_
  have hn := h.none_
  obtain ⟨n0, s, ⟨a0, a1, az⟩, ⟨b0, b1, bz⟩⟩ := z
  cases s with
  | true =>
    obtain ⟨⟨x1, x2⟩, ⟨y1, y2⟩, k⟩ := hs rfl
    have fa := (hf _ x1).resolve_left x2
    have fb := (hf _ y1).resolve_left y2
    refine soundV_some hr.1 (hl.2 rfl) ((k _ y1 y2).1) ?_ w
    simp only at x2 y2 fa fb
    have ca : colE (kind, false, 0) (a0, a1, az) = 0 := by
      unfold colE
      rw [if_neg (by simp only; rintro (q | q); · rw [fa.2.1] at q; cases q
                     · exact x2 q.1), if_neg (by simp only; omega)]
    have cb : colE (kind, false, 0) (b0, b1, bz) = 0 := by
      unfold colE
      rw [if_neg (by simp only; rintro (q | q); · rw [fb.2.1] at q; cases q
                     · exact y2 q.1), if_neg (by simp only; omega)]
    simp [rwE, colsE, ca, cb]
  | false =>
    obtain ⟨e, _⟩ := hn rfl
    have hge : ¬ n0 < (l.length : Int) := fun q => by have := hl.1 q; cases this
    simp only [Prod.mk.injEq] at e
    obtain ⟨⟨rfl, rfl, rfl⟩, rfl, rfl, rfl⟩ := e
    simp only at hr hge
    rw [show (l.length : Int) = n0 by omega]
    exact soundV_none hr.1 kind w
end Go.Proofs.YtmjpjllbfgkfbaaDoor
