/- Texts joined: ZwEx ZwSnd. -/
import Derived.Deep.RegionLaw
import Derived.Laws.EntriesVeiled
import Derived.Test.YtmjpjllbfgkfbaaDoorZwRep
import Derived.Test.YtmjpjllbfgkfbaaDoorVlRow
import Derived.Test.YtmjpjllbfgkfbaaDoorJ4
import Derived.Test.YtmjpjllbfgkfbaaDoorZnMayK
/- Contracts of the example's own functions and of zone's Of and Sound at its values. -/
namespace Go.Proofs.YtmjpjllbfgkfbaaDoor
open Go.RowKit
set_option linter.unusedVariables false
set_option linter.unusedSimpArgs false
set_option maxRecDepth 100000

theorem exN (v : Int) (w : World) : Calls Tryd.prog 17 #[.int .i64 v] w fun e w' => e = .returned (.agg #[.int .i64 1, .int .i64 v, .string ⟨#[]⟩]) ∧ Below w.heap.size w w' := by
  have k := Lib.hid (Blk.new w 37 #[.int .i64 1, .int .i64 v, .string ⟨#[]⟩])
  have hb := Lib.hid ((Below.refl w.heap.size w).alloc (Nat.le_refl _) (.cells #[.int .i64 1, .int .i64 v, .string ⟨#[]⟩] 37))
  go_enter Tryd.func17, Tryd.ntmps17
  go_wp2_with fail
  exact bodyPost_ret (v := .agg #[.int .i64 1, .int .i64 v, .string ⟨#[]⟩]) (results_cell_row rfl _ _ _ _ _ _ _ (by rfl) k.out Tryd.underlying37 rfl (by kernel_rfl)) rfl ⟨rfl, hb.out⟩
set_option maxHeartbeats 1000000 in
theorem exLt (v : Int) {w : World} {g : Nat} (hg : Blk w g 51 #[.func (.func 17) #[] #[]]) :
    Calls Tryd.prog 18 #[.int .i64 v, .pointer (some ⟨g, 0, none⟩)] w fun e w' => ∃ h, e = .returned (.agg #[.int .i64 3, .int .i64 0, .slice (some ⟨h, 0, none⟩) 1 1, .slice none 0 0]) ∧ w.heap.size ≤ h ∧ Blk w' h 37 #[.int .i64 1, .int .i64 v, .string ⟨#[]⟩] ∧ Below w.heap.size w w' := by
  have H := Lib.hid (exN v)
  have hb := (Below.refl w.heap.size w).alloc (Nat.le_refl _) (.cells #[.int .i64 0, .int .i64 0, .slice none 0 0, .slice none 0 0] 26)
  have k := Blk.new w 26 #[.int .i64 0, .int .i64 0, .slice none 0 0, .slice none 0 0]
  have x0 : _ = some (Value.func (.func 17) #[] #[]) := (hg.alloc (.cells #[.int .i64 0, .int .i64 0, .slice none 0 0, .slice none 0 0] 26)).cell 0
  have HB := Lib.hid hb; have HK := Lib.hid k
  clear hb k hg
  go_enter Tryd.func18, Tryd.ntmps18
  go_wp2_with fail
  refine (H.out _).mono ?_
  rintro e w1 ⟨rfl, hb1⟩
  have k1 := HK.out.below hb1 HK.out.lt
  have b1 := HB.out.trans (hb1.mono HB.out.size)
  have k2 := k1.alloc (.cells #[.int .i64 1, .int .i64 v, .string ⟨#[]⟩] 37)
  have b2 := b1.alloc b1.size (.cells #[.int .i64 1, .int .i64 v, .string ⟨#[]⟩] 37)
  have kv := Blk.new w1 37 #[.int .i64 1, .int .i64 v, .string ⟨#[]⟩]
  obtain ⟨r0, r1, r2, r3⟩ := blk4' k2
  have z0 := k2.frozen 0; have z1 := k2.frozen 1; have z2 := k2.frozen 2; have z3 := k2.frozen 3
  have hne : w1.heap.size ≠ w.heap.size := by have := k1.lt; omega
  have k3 := (((k2.set_ 0 (.int .i64 3)).set_ 1 (.int .i64 0)).set_ 2 (.slice (some ⟨w1.heap.size, 0, none⟩) 1 1)).set_ 3 (.slice none 0 0)
  have b3 := (((b2.setCell (p := ⟨w.heap.size, 0, none⟩) (Nat.le_refl _) (.int .i64 3)).setCell (p := ⟨w.heap.size, 1, none⟩) (Nat.le_refl _) (.int .i64 0)).setCell (p := ⟨w.heap.size, 2, none⟩) (Nat.le_refl _) (.slice (some ⟨w1.heap.size, 0, none⟩) 1 1)).setCell (p := ⟨w.heap.size, 3, none⟩) (Nat.le_refl _) (.slice none 0 0)
  have v3 := (((kv.far (p := ⟨w.heap.size, 0, none⟩) hne (.int .i64 3)).far (p := ⟨w.heap.size, 1, none⟩) hne (.int .i64 0)).far (p := ⟨w.heap.size, 2, none⟩) hne (.slice (some ⟨w1.heap.size, 0, none⟩) 1 1)).far (p := ⟨w.heap.size, 3, none⟩) hne (.slice none 0 0)
  have K3 := Lib.hid (show Blk _ w.heap.size 26 #[.int .i64 3, .int .i64 0, .slice (some ⟨w1.heap.size, 0, none⟩) 1 1, .slice none 0 0] by simpa using k3)
  have B3 := Lib.hid b3; have V3 := Lib.hid v3; have HS := Lib.hid b1.size
  clear hb1 k1 b1 k2 b2 kv k3 b3 v3 hne x0 HB HK
  go_wp2_with fail
  exact bodyPost_ret (v := .agg #[.int .i64 3, .int .i64 0, .slice (some ⟨w1.heap.size, 0, none⟩) 1 1, .slice none 0 0]) (results_cell_row rfl _ _ _ _ _ _ _ (by rfl) K3.out Tryd.underlying26 rfl (by kernel_rfl)) rfl ⟨_, rfl, HS.out, V3.out, B3.out⟩
/-- The zone of the example. -/
def exZ : Zn := (0, true, (1, 5, []), (1, 9, []))
theorem cmpEx (a b : Int) (w : World) : Calls Tryd.prog 19 #[.agg #[.int .i64 1, .int .i64 a, .string ⟨#[]⟩], .agg #[.int .i64 1, .int .i64 b, .string ⟨#[]⟩]] w fun e w' => e = .returned (.int .i64 (cmpI a b)) ∧ Below w.heap.size w w' := by
  have h := cmpC_any (1, a, []) (1, b, []) w
  rw [cmpV_is, if_pos rfl, if_pos rfl] at h
  exact h
theorem store8 {w W : World} {R : Nat} {t : TypeId} {cs : Array Value} (hR : Blk W R t cs) (hb : Below w.heap.size w W) (hwR : w.heap.size ≤ R) (i j k : Nat) (u v x : Value) :
    Blk (((W.setCell ⟨R, i, none⟩ u).setCell ⟨R, j, none⟩ v).setCell ⟨R, k, none⟩ x) R t (((cs.setIfInBounds i u).setIfInBounds j v).setIfInBounds k x) ∧ Below w.heap.size w (((W.setCell ⟨R, i, none⟩ u).setCell ⟨R, j, none⟩ v).setCell ⟨R, k, none⟩ x) :=
  ⟨((hR.set_ i u).set_ j v).set_ k x, ((hb.setCell (p := ⟨R, i, none⟩) hwR u).setCell (p := ⟨R, j, none⟩) hwR v).setCell (p := ⟨R, k, none⟩) hwR x⟩
set_option maxHeartbeats 4000000 in
theorem exOf {w : World} {g : Nat} (hg : Blk w g 37 #[.int .i64 1, .int .i64 7, .string ⟨#[]⟩, .int .i64 1, .int .i64 5, .string ⟨#[]⟩, .int .i64 1, .int .i64 9, .string ⟨#[]⟩]) :
    Calls Tryd.prog 10 #[.slice (some ⟨g, 0, none⟩) 3 3] w fun e w' => e = .returned (zW exZ) ∧ Below w.heap.size w w' := by
  have HC := Lib.hid cmpEx
  have hgl := hg.lt
  have kz := Blk.new (w.alloc (.cells #[.int .i64 0, .bool false, .int .i64 0, .int .i64 0, .string ⟨#[]⟩, .int .i64 0, .int .i64 0, .string ⟨#[]⟩] 39)) 39 #[.int .i64 0, .bool false, .int .i64 0, .int .i64 0, .string ⟨#[]⟩, .int .i64 0, .int .i64 0, .string ⟨#[]⟩]
  have kr := (Blk.new w 39 #[.int .i64 0, .bool false, .int .i64 0, .int .i64 0, .string ⟨#[]⟩, .int .i64 0, .int .i64 0, .string ⟨#[]⟩]).alloc (.cells #[.int .i64 0, .bool false, .int .i64 0, .int .i64 0, .string ⟨#[]⟩, .int .i64 0, .int .i64 0, .string ⟨#[]⟩] 39)
  have hb := ((Below.refl w.heap.size w).alloc (Nat.le_refl _) (.cells #[.int .i64 0, .bool false, .int .i64 0, .int .i64 0, .string ⟨#[]⟩, .int .i64 0, .int .i64 0, .string ⟨#[]⟩] 39)).alloc (by simp) (.cells #[.int .i64 0, .bool false, .int .i64 0, .int .i64 0, .string ⟨#[]⟩, .int .i64 0, .int .i64 0, .string ⟨#[]⟩] 39)
  rw [World.size_alloc] at kz
  have HKZ := Lib.hid kz; have HKR := Lib.hid kr; have HB := Lib.hid hb; have HG := Lib.hid hg
  clear kz kr hb hg
  go_enter Tryd.func10, Tryd.ntmps10
  go_wp2_with fail
  go_loopw [8] (fun i wr => Below w.heap.size w wr ∧ Blk wr w.heap.size 39 #[.int .i64 0, .bool false, .int .i64 0, .int .i64 0, .string ⟨#[]⟩, .int .i64 0, .int .i64 0, .string ⟨#[]⟩] ∧ ((i = .int .i64 0 ∧ Blk wr (w.heap.size + 1) 39 #[.int .i64 0, .bool false, .int .i64 0, .int .i64 0, .string ⟨#[]⟩, .int .i64 0, .int .i64 0, .string ⟨#[]⟩]) ∨ (i = .int .i64 1 ∧ Blk wr (w.heap.size + 1) 39 #[.int .i64 0, .bool true, .int .i64 1, .int .i64 7, .string ⟨#[]⟩, .int .i64 1, .int .i64 7, .string ⟨#[]⟩]) ∨ (i = .int .i64 2 ∧ Blk wr (w.heap.size + 1) 39 #[.int .i64 0, .bool true, .int .i64 1, .int .i64 5, .string ⟨#[]⟩, .int .i64 1, .int .i64 7, .string ⟨#[]⟩]) ∨ (i = .int .i64 3 ∧ Blk wr (w.heap.size + 1) 39 #[.int .i64 0, .bool true, .int .i64 1, .int .i64 5, .string ⟨#[]⟩, .int .i64 1, .int .i64 9, .string ⟨#[]⟩]))) (fun i _ => 3 - (intOf i).toNat)
  case atStart => exact ⟨HB.out, HKR.out, .inl ⟨rfl, HKZ.out⟩⟩
  case round =>
    clear HB HKZ HKR
    obtain ⟨hb, kr, hrel⟩ := hrel
    rcases hrel with ⟨rfl, kz⟩ | ⟨rfl, kz⟩ | ⟨rfl, kz⟩ | ⟨rfl, kz⟩
    · have kg := HG.out.below hb hgl
      have e0 : wr.cell? ⟨g, 0, none⟩ = some (.int .i64 1) := kg.cell 0
      have e1 : wr.cell? ⟨g, 1, none⟩ = some (.int .i64 7) := kg.cell 1
      have e2 : wr.cell? ⟨g, 2, none⟩ = some (.string ⟨#[]⟩) := kg.cell 2
      have kv := Blk.new wr 37 #[.int .i64 1, .int .i64 7, .string ⟨#[]⟩]
      have kz1 := kz.alloc (.cells #[.int .i64 1, .int .i64 7, .string ⟨#[]⟩] 37)
      have kr1 := kr.alloc (.cells #[.int .i64 1, .int .i64 7, .string ⟨#[]⟩] 37)
      have hb1 := hb.alloc hb.size (.cells #[.int .i64 1, .int .i64 7, .string ⟨#[]⟩] 37)
      have hne1 : ¬ (w.heap.size + 1 = wr.heap.size) := by have := kz.lt; omega
      have hne2 : ¬ (wr.heap.size = w.heap.size + 1) := by have := kz.lt; omega
      obtain ⟨x0, x1, x2⟩ := blk3 kv
      obtain ⟨y0, y1, y2, y3, y4, y5, y6, y7⟩ := blk8 kz1
      have z1 := kz1.frozen 1
      have z2 := kz1.frozen 2
      have z3 := kz1.frozen 3
      have z4 := kz1.frozen 4
      have z5 := kz1.frozen 5
      have z6 := kz1.frozen 6
      have z7 := kz1.frozen 7
      have K9 := Lib.hid (show Blk _ (w.heap.size + 1) 39 #[.int .i64 0, .bool true, .int .i64 1, .int .i64 7, .string ⟨#[]⟩, .int .i64 1, .int .i64 7, .string ⟨#[]⟩] by simpa using (((((((kz1.set_ 1 (.bool true)).set_ 2 (.int .i64 1)).set_ 3 (.int .i64 7)).set_ 4 (.string ⟨#[]⟩)).set_ 5 (.int .i64 1)).set_ 6 (.int .i64 7)).set_ 7 (.string ⟨#[]⟩)).drew)
      have B9 := Lib.hid (below_drewR (((((((hb1.setCell (p := ⟨w.heap.size + 1, 1, none⟩) (by show w.heap.size ≤ w.heap.size + 1; omega) (.bool true)).setCell (p := ⟨w.heap.size + 1, 2, none⟩) (by show w.heap.size ≤ w.heap.size + 1; omega) (.int .i64 1)).setCell (p := ⟨w.heap.size + 1, 3, none⟩) (by show w.heap.size ≤ w.heap.size + 1; omega) (.int .i64 7)).setCell (p := ⟨w.heap.size + 1, 4, none⟩) (by show w.heap.size ≤ w.heap.size + 1; omega) (.string ⟨#[]⟩)).setCell (p := ⟨w.heap.size + 1, 5, none⟩) (by show w.heap.size ≤ w.heap.size + 1; omega) (.int .i64 1)).setCell (p := ⟨w.heap.size + 1, 6, none⟩) (by show w.heap.size ≤ w.heap.size + 1; omega) (.int .i64 7)).setCell (p := ⟨w.heap.size + 1, 7, none⟩) (by show w.heap.size ≤ w.heap.size + 1; omega) (.string ⟨#[]⟩)))
      have R9 := Lib.hid ((((((((kr1.far (p := ⟨w.heap.size + 1, 1, none⟩) (show w.heap.size ≠ w.heap.size + 1 by omega) (.bool true)).far (p := ⟨w.heap.size + 1, 2, none⟩) (show w.heap.size ≠ w.heap.size + 1 by omega) (.int .i64 1)).far (p := ⟨w.heap.size + 1, 3, none⟩) (show w.heap.size ≠ w.heap.size + 1 by omega) (.int .i64 7)).far (p := ⟨w.heap.size + 1, 4, none⟩) (show w.heap.size ≠ w.heap.size + 1 by omega) (.string ⟨#[]⟩)).far (p := ⟨w.heap.size + 1, 5, none⟩) (show w.heap.size ≠ w.heap.size + 1 by omega) (.int .i64 1)).far (p := ⟨w.heap.size + 1, 6, none⟩) (show w.heap.size ≠ w.heap.size + 1 by omega) (.int .i64 7)).far (p := ⟨w.heap.size + 1, 7, none⟩) (show w.heap.size ≠ w.heap.size + 1 by omega) (.string ⟨#[]⟩)).drew)
      clear kg kv kz kz1 kr kr1 hb hb1
      go_wp2_with fail
      go_region
      go_wp2_with fail
      go_round
      case rel => exact ⟨B9.out, R9.out, .inr (.inl ⟨rfl, K9.out⟩)⟩
      case measure => simp [intOf]
    · have kg := HG.out.below hb hgl
      have e0 : wr.cell? ⟨g, 3, none⟩ = some (.int .i64 1) := kg.cell 3
      have e1 : wr.cell? ⟨g, 4, none⟩ = some (.int .i64 5) := kg.cell 4
      have e2 : wr.cell? ⟨g, 5, none⟩ = some (.string ⟨#[]⟩) := kg.cell 5
      have kv := Blk.new wr 37 #[.int .i64 1, .int .i64 5, .string ⟨#[]⟩]
      have kz1 := kz.alloc (.cells #[.int .i64 1, .int .i64 5, .string ⟨#[]⟩] 37)
      have kr1 := kr.alloc (.cells #[.int .i64 1, .int .i64 5, .string ⟨#[]⟩] 37)
      have hb1 := hb.alloc hb.size (.cells #[.int .i64 1, .int .i64 5, .string ⟨#[]⟩] 37)
      have hne1 : ¬ (w.heap.size + 1 = wr.heap.size) := by have := kz.lt; omega
      have hne2 : ¬ (wr.heap.size = w.heap.size + 1) := by have := kz.lt; omega
      obtain ⟨x0, x1, x2⟩ := blk3 kv
      obtain ⟨y0, y1, y2, y3, y4, y5, y6, y7⟩ := blk8 kz1
      have hc2 := HC.out 5 7
      rw [show cmpI 5 7 = -1 from rfl] at hc2
      have HC2 := Lib.hid hc2
      clear hc2
      have Hkz1 := Lib.hid kz1; have Hhb1 := Lib.hid hb1; have Hkr1 := Lib.hid kr1; have Hkv := Lib.hid kv
      clear kg kv kz kz1 kr kr1 hb hb1
      go_wp2_with fail
      refine (HC2.out _).mono ?_
      rintro e w2 ⟨rfl, hd⟩
      have kz2' := Hkz1.out.below hd Hkz1.out.lt; have kr2' := Hkr1.out.below hd Hkr1.out.lt; have kv2' := Hkv.out.below hd Hkv.out.lt; have hb2' := Hhb1.out.trans (hd.mono Hhb1.out.size)
      clear hd x0 x1 x2 y0 y1 y2 y3 y4 y5 y6 y7
      obtain ⟨x0, x1, x2⟩ := blk3 kv2'
      obtain ⟨y0, y1, y2, y3, y4, y5, y6, y7⟩ := blk8 kz2'
      have z2 := kz2'.frozen 2
      have z3 := kz2'.frozen 3
      have z4 := kz2'.frozen 4
      have K9 := Lib.hid (show Blk _ (w.heap.size + 1) 39 #[.int .i64 0, .bool true, .int .i64 1, .int .i64 5, .string ⟨#[]⟩, .int .i64 1, .int .i64 7, .string ⟨#[]⟩] by simpa using (((kz2'.set_ 2 (.int .i64 1)).set_ 3 (.int .i64 5)).set_ 4 (.string ⟨#[]⟩)))
      have B9 := Lib.hid ((((hb2'.setCell (p := ⟨w.heap.size + 1, 2, none⟩) (by show w.heap.size ≤ w.heap.size + 1; omega) (.int .i64 1)).setCell (p := ⟨w.heap.size + 1, 3, none⟩) (by show w.heap.size ≤ w.heap.size + 1; omega) (.int .i64 5)).setCell (p := ⟨w.heap.size + 1, 4, none⟩) (by show w.heap.size ≤ w.heap.size + 1; omega) (.string ⟨#[]⟩)))
      have R9 := Lib.hid ((((kr2'.far (p := ⟨w.heap.size + 1, 2, none⟩) (show w.heap.size ≠ w.heap.size + 1 by omega) (.int .i64 1)).far (p := ⟨w.heap.size + 1, 3, none⟩) (show w.heap.size ≠ w.heap.size + 1 by omega) (.int .i64 5)).far (p := ⟨w.heap.size + 1, 4, none⟩) (show w.heap.size ≠ w.heap.size + 1 by omega) (.string ⟨#[]⟩)))
      clear kz2' kr2' kv2' hb2' Hkz1 Hhb1 Hkr1 Hkv HC2
      go_wp2_with fail
      go_round
      case rel => exact ⟨B9.out, R9.out, .inr (.inr (.inl ⟨rfl, K9.out⟩))⟩
      case measure => simp [intOf]
    · have kg := HG.out.below hb hgl
      have e0 : wr.cell? ⟨g, 6, none⟩ = some (.int .i64 1) := kg.cell 6
      have e1 : wr.cell? ⟨g, 7, none⟩ = some (.int .i64 9) := kg.cell 7
      have e2 : wr.cell? ⟨g, 8, none⟩ = some (.string ⟨#[]⟩) := kg.cell 8
      have kv := Blk.new wr 37 #[.int .i64 1, .int .i64 9, .string ⟨#[]⟩]
      have kz1 := kz.alloc (.cells #[.int .i64 1, .int .i64 9, .string ⟨#[]⟩] 37)
      have kr1 := kr.alloc (.cells #[.int .i64 1, .int .i64 9, .string ⟨#[]⟩] 37)
      have hb1 := hb.alloc hb.size (.cells #[.int .i64 1, .int .i64 9, .string ⟨#[]⟩] 37)
      have hne1 : ¬ (w.heap.size + 1 = wr.heap.size) := by have := kz.lt; omega
      have hne2 : ¬ (wr.heap.size = w.heap.size + 1) := by have := kz.lt; omega
      obtain ⟨x0, x1, x2⟩ := blk3 kv
      obtain ⟨y0, y1, y2, y3, y4, y5, y6, y7⟩ := blk8 kz1
      have hc2 := HC.out 9 5
      rw [show cmpI 9 5 = 1 from rfl] at hc2
      have HC2 := Lib.hid hc2
      clear hc2
      have hc3 := HC.out 9 7
      rw [show cmpI 9 7 = 1 from rfl] at hc3
      have HC3 := Lib.hid hc3
      clear hc3
      have Hkz1 := Lib.hid kz1; have Hhb1 := Lib.hid hb1; have Hkr1 := Lib.hid kr1; have Hkv := Lib.hid kv
      clear kg kv kz kz1 kr kr1 hb hb1
      go_wp2_with fail
      refine (HC2.out _).mono ?_
      rintro e w2 ⟨rfl, hd⟩
      have kz2' := Hkz1.out.below hd Hkz1.out.lt; have kr2' := Hkr1.out.below hd Hkr1.out.lt; have kv2' := Hkv.out.below hd Hkv.out.lt; have hb2' := Hhb1.out.trans (hd.mono Hhb1.out.size)
      clear hd x0 x1 x2 y0 y1 y2 y3 y4 y5 y6 y7
      obtain ⟨x0, x1, x2⟩ := blk3 kv2'
      obtain ⟨y0, y1, y2, y3, y4, y5, y6, y7⟩ := blk8 kz2'
      have Hkz2' := Lib.hid kz2'; have Hhb2' := Lib.hid hb2'; have Hkr2' := Lib.hid kr2'; have Hkv2' := Lib.hid kv2'
      clear kz2' kr2' kv2' hb2' Hkz1 Hhb1 Hkr1 Hkv HC2
      go_wp2_with fail
      refine (HC3.out _).mono ?_
      rintro e w3 ⟨rfl, hd⟩
      have kz3' := Hkz2'.out.below hd Hkz2'.out.lt; have kr3' := Hkr2'.out.below hd Hkr2'.out.lt; have kv3' := Hkv2'.out.below hd Hkv2'.out.lt; have hb3' := Hhb2'.out.trans (hd.mono Hhb2'.out.size)
      clear hd x0 x1 x2 y0 y1 y2 y3 y4 y5 y6 y7
      obtain ⟨x0, x1, x2⟩ := blk3 kv3'
      obtain ⟨y0, y1, y2, y3, y4, y5, y6, y7⟩ := blk8 kz3'
      have z5 := kz3'.frozen 5
      have z6 := kz3'.frozen 6
      have z7 := kz3'.frozen 7
      have K9 := Lib.hid (show Blk _ (w.heap.size + 1) 39 #[.int .i64 0, .bool true, .int .i64 1, .int .i64 5, .string ⟨#[]⟩, .int .i64 1, .int .i64 9, .string ⟨#[]⟩] by simpa using (((kz3'.set_ 5 (.int .i64 1)).set_ 6 (.int .i64 9)).set_ 7 (.string ⟨#[]⟩)))
      have B9 := Lib.hid ((((hb3'.setCell (p := ⟨w.heap.size + 1, 5, none⟩) (by show w.heap.size ≤ w.heap.size + 1; omega) (.int .i64 1)).setCell (p := ⟨w.heap.size + 1, 6, none⟩) (by show w.heap.size ≤ w.heap.size + 1; omega) (.int .i64 9)).setCell (p := ⟨w.heap.size + 1, 7, none⟩) (by show w.heap.size ≤ w.heap.size + 1; omega) (.string ⟨#[]⟩)))
      have R9 := Lib.hid ((((kr3'.far (p := ⟨w.heap.size + 1, 5, none⟩) (show w.heap.size ≠ w.heap.size + 1 by omega) (.int .i64 1)).far (p := ⟨w.heap.size + 1, 6, none⟩) (show w.heap.size ≠ w.heap.size + 1 by omega) (.int .i64 9)).far (p := ⟨w.heap.size + 1, 7, none⟩) (show w.heap.size ≠ w.heap.size + 1 by omega) (.string ⟨#[]⟩)))
      clear kz3' kr3' kv3' hb3' Hkz2' Hhb2' Hkr2' Hkv2' HC3
      go_wp2_with fail
      go_round
      case rel => exact ⟨B9.out, R9.out, .inr (.inr (.inr (⟨rfl, K9.out⟩)))⟩
      case measure => simp [intOf]
    · obtain ⟨y0, y1, y2, y3, y4, y5, y6, y7⟩ := blk8 kz
      obtain ⟨x0, x1, x2, x3, x4, x5, x6, x7⟩ := blk8 kr
      have z0 := kr.frozen 0
      have z1 := kr.frozen 1
      have z2 := kr.frozen 2
      have z3 := kr.frozen 3
      have z4 := kr.frozen 4
      have z5 := kr.frozen 5
      have z6 := kr.frozen 6
      have z7 := kr.frozen 7
      have K9 := Lib.hid (show Blk _ w.heap.size 39 #[.int .i64 0, .bool true, .int .i64 1, .int .i64 5, .string ⟨#[]⟩, .int .i64 1, .int .i64 9, .string ⟨#[]⟩] by simpa using ((((((((kr.set_ 0 (.int .i64 0)).set_ 1 (.bool true)).set_ 2 (.int .i64 1)).set_ 3 (.int .i64 5)).set_ 4 (.string ⟨#[]⟩)).set_ 5 (.int .i64 1)).set_ 6 (.int .i64 9)).set_ 7 (.string ⟨#[]⟩)))
      have B9 := Lib.hid (((((((((hb.setCell (p := ⟨w.heap.size, 0, none⟩) (Nat.le_refl _) (.int .i64 0)).setCell (p := ⟨w.heap.size, 1, none⟩) (Nat.le_refl _) (.bool true)).setCell (p := ⟨w.heap.size, 2, none⟩) (Nat.le_refl _) (.int .i64 1)).setCell (p := ⟨w.heap.size, 3, none⟩) (Nat.le_refl _) (.int .i64 5)).setCell (p := ⟨w.heap.size, 4, none⟩) (Nat.le_refl _) (.string ⟨#[]⟩)).setCell (p := ⟨w.heap.size, 5, none⟩) (Nat.le_refl _) (.int .i64 1)).setCell (p := ⟨w.heap.size, 6, none⟩) (Nat.le_refl _) (.int .i64 9)).setCell (p := ⟨w.heap.size, 7, none⟩) (Nat.le_refl _) (.string ⟨#[]⟩)))
      clear kz kr hb HG HC
      go_wp2_with fail
      exact bodyPost_ret (v := .agg #[.int .i64 0, .bool true, .int .i64 1, .int .i64 5, .string ⟨#[]⟩, .int .i64 1, .int .i64 9, .string ⟨#[]⟩]) (results_cell_row rfl _ _ _ _ _ _ _ (by rfl) K9.out Tryd.underlying39 rfl (by kernel_rfl)) rfl ⟨rfl, B9.out⟩
end Go.Proofs.YtmjpjllbfgkfbaaDoor

/- Contract of zone's Sound at the example. -/
namespace Go.Proofs.YtmjpjllbfgkfbaaDoor
open Go.RowKit
set_option linter.unusedVariables false
set_option linter.unusedSimpArgs false
set_option maxRecDepth 100000

set_option maxHeartbeats 1000000 in
theorem exSound (w : World) : Calls Tryd.prog 11 #[zW exZ, .int .i64 3, .int .i64 1] w fun e w' => e = .returned (.bool true) ∧ Below w.heap.size w w' := by
  have hc := cmpEx 5 9
  rw [show cmpI 5 9 = -1 from rfl] at hc
  have HC := Lib.hid hc
  rw [show zW exZ = .agg #[.int .i64 0, .bool true, .int .i64 1, .int .i64 5, .string ⟨#[]⟩, .int .i64 1, .int .i64 9, .string ⟨#[]⟩] from rfl]
  have kz := Blk.new w 39 #[.int .i64 0, .bool true, .int .i64 1, .int .i64 5, .string ⟨#[]⟩, .int .i64 1, .int .i64 9, .string ⟨#[]⟩]
  have hb := (Below.refl w.heap.size w).alloc (Nat.le_refl _) (.cells #[.int .i64 0, .bool true, .int .i64 1, .int .i64 5, .string ⟨#[]⟩, .int .i64 1, .int .i64 9, .string ⟨#[]⟩] 39)
  have HZ := Lib.hid kz; have HB := Lib.hid hb
  clear hc kz hb
  go_enter Tryd.func11, Tryd.ntmps11
  go_wp2_with fail
  refine (HC.out _).mono ?_
  rintro e w1 ⟨rfl, hb1⟩
  have kz1 := HZ.out.below hb1 HZ.out.lt
  have hbw := HB.out.trans (hb1.mono HB.out.size)
  obtain ⟨y0, y1, y2, y3, y4, y5, y6, y7⟩ := blk8 kz1
  have kv := Blk.new w1 37 #[.int .i64 1, .int .i64 5, .string ⟨#[]⟩, .int .i64 1, .int .i64 9, .string ⟨#[]⟩]
  have b1 := (Below.refl w1.heap.size w1).alloc (Nat.le_refl _) (.cells #[.int .i64 1, .int .i64 5, .string ⟨#[]⟩, .int .i64 1, .int .i64 9, .string ⟨#[]⟩] 37)
  have kc := Blk.new (w1.alloc (.cells #[.int .i64 1, .int .i64 5, .string ⟨#[]⟩, .int .i64 1, .int .i64 9, .string ⟨#[]⟩] 37)) 43 #[.int .i64 1, .bool false, .int .i64 0]
  have b2 := b1.alloc b1.size (.cells #[.int .i64 1, .bool false, .int .i64 0] 43)
  have kv2 := kv.alloc (.cells #[.int .i64 1, .bool false, .int .i64 0] 43)
  rw [World.size_alloc] at kc
  have hr := repeat_12 kc
  have hsz : ((w1.alloc (.cells #[.int .i64 1, .int .i64 5, .string ⟨#[]⟩, .int .i64 1, .int .i64 9, .string ⟨#[]⟩] 37)).alloc (.cells #[.int .i64 1, .bool false, .int .i64 0] 43)).heap.size = w1.heap.size + 1 + 1 := by rw [World.size_alloc, World.size_alloc]
  rw [hsz] at hr
  have HR := Lib.hid hr
  have HV := Lib.hid kv2; have HW := Lib.hid (hbw.trans (b2.mono hbw.size))
  clear hb1 kz1 hbw kv b1 kc b2 kv2 HC HZ HB
  go_wp2_with fail
  refine HR.out.mono ?_
  rintro e w2 ⟨rfl, kr, hb2⟩
  have kv3 := HV.out.below hb2 (by have := HV.out.lt; rw [hsz] at this; exact this)
  have hs := reads_blkZ kr (n := 2) (s := 3) (xs := cls [(1, false, 0), (1, false, 0)]) rfl
  have hv := reads_blkZ kv3 (n := 2) (s := 3) (xs := vs [(1, 5, []), (1, 9, [])]) rfl
  have hrow := rowV_any _ _ 2 2 2 2 [(1, false, 0), (1, false, 0)] [(1, 5, []), (1, 9, [])] w2 hs hv (by omega) (by omega)
  rw [show rwE [(1, false, 0), (1, false, 0)] [(1, 5, []), (1, 9, [])] = 0 from by simp [rwE, colsE, colE, rgt]] at hrow
  have HROW := Lib.hid hrow
  have HW2 := Lib.hid (HW.out.trans (hb2.mono (by have := HW.out.size; rw [hsz] at this; exact this)))
  clear kr hb2 kv3 hs hv hrow HR HV HW hsz
  go_wp2_with fail
  refine HROW.out.mono ?_
  rintro e w3 ⟨rfl, hb3⟩
  go_wp2_with fail
  go_ret
  exact ⟨by first | rfl | simp, HW2.out.trans (hb3.mono HW2.out.size)⟩
end Go.Proofs.YtmjpjllbfgkfbaaDoor
