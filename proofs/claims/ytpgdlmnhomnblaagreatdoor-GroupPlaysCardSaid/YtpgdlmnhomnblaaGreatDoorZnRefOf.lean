import Derived.Deep.DeepCutAuto
import Derived.Deep.CutBlock
import Derived.Test.YtpgdlmnhomnblaaGreatDoorJ25
import Derived.Test.YtpgdlmnhomnblaaGreatDoorJ44
namespace Go.Proofs.YtpgdlmnhomnblaaGreatDoor
open Go.RowKit
set_option linter.unusedVariables false
set_option linter.unusedSimpArgs false
set_option maxRecDepth 100000
theorem zoV_low {l : List Vl} {n0 : Int} {a b v : Vl} (h : zoV l = (n0, true, a, b)) (hv : cmpV v a < 0) : ¬ 0 < cmpV v b := by
  have ho := zoV_of l
  rw [h] at ho
  obtain ⟨⟨a1, an⟩, _, hk⟩ := ho.some_ rfl
  have hab : leV a b := (hk a a1 an).2
  have hva : leV v a := by unfold leV; omega
  have := hva.trans hab
  unfold leV at this
  omega
set_option maxHeartbeats 4000000 in
theorem refOfZ_any {w : World} {A : Option Addr} {n c : Nat} {vl : List Vl} (hr : Reads w w.heap.size 3 A n (vs vl)) (hn : n ≤ 140737488355328) :
    Calls Tryz.prog 58 #[.slice A n c] w fun e w' => e = .returned (zW (zoV vl)) ∧ Below w.heap.size w w' := by
  have e2 : vl.length = n := by have := hr.1; rw [vs_length] at this; omega
  have HE2 := Lib.hid e2
  have HC := Lib.hid fun (a b : Vl) (W : World) => refCmp_any a b W
  have kz := Blk.new (w.alloc (.cells #[.int .i64 0, .bool false, .int .i64 0, .int .i64 0, .string ⟨#[]⟩, .int .i64 0, .int .i64 0, .string ⟨#[]⟩] 55)) 55 #[.int .i64 0, .bool false, .int .i64 0, .int .i64 0, .string ⟨#[]⟩, .int .i64 0, .int .i64 0, .string ⟨#[]⟩]
  have kr := (Blk.new w 55 #[.int .i64 0, .bool false, .int .i64 0, .int .i64 0, .string ⟨#[]⟩, .int .i64 0, .int .i64 0, .string ⟨#[]⟩]).alloc (.cells #[.int .i64 0, .bool false, .int .i64 0, .int .i64 0, .string ⟨#[]⟩, .int .i64 0, .int .i64 0, .string ⟨#[]⟩] 55)
  have hb := ((Below.refl w.heap.size w).alloc (Nat.le_refl _) (.cells #[.int .i64 0, .bool false, .int .i64 0, .int .i64 0, .string ⟨#[]⟩, .int .i64 0, .int .i64 0, .string ⟨#[]⟩] 55)).alloc (by simp) (.cells #[.int .i64 0, .bool false, .int .i64 0, .int .i64 0, .string ⟨#[]⟩, .int .i64 0, .int .i64 0, .string ⟨#[]⟩] 55)
  rw [World.size_alloc] at kz
  have HKZ := Lib.hid kz; have HKR := Lib.hid kr; have HB := Lib.hid hb
  clear kz kr hb e2
  go_enter Tryz.func58, Tryz.ntmps58
  go_wp2_with fail
  go_loopw [4, 5] (fun i _ wr => ∃ k : Nat, k ≤ n ∧ i = .int .i64 (k : Int) ∧ Below w.heap.size w wr ∧ Blk wr w.heap.size 55 #[.int .i64 0, .bool false, .int .i64 0, .int .i64 0, .string ⟨#[]⟩, .int .i64 0, .int .i64 0, .string ⟨#[]⟩] ∧ ∃ zz, zoV (vl.take k) = zz ∧ Blk wr (w.heap.size + 1) 55 (zA zz)) (fun i _ _ => n - (intOf i).toNat)
  case atStart => exact ⟨0, Nat.zero_le _, rfl, HB.out, HKR.out, _, rfl, HKZ.out⟩
  case round =>
    clear HB HKZ HKR
    obtain ⟨k, hk, rfl, hb, kr, ⟨n0, s, ⟨a0, a1, az⟩, ⟨b0, b1, bz⟩⟩, hz, kz⟩ := hrel
    have hrng := (zoV_of (vl.take k)).range
    rw [hz] at hrng
    simp only [List.length_take] at hrng
    have kz : Blk wr (w.heap.size + 1) 55 #[.int .i64 n0, .bool s, .int .i64 a0, .int .i64 a1, .string ⟨az.toArray⟩, .int .i64 b0, .int .i64 b1, .string ⟨bz.toArray⟩] := kz
    by_cases hlt : k < n
    · obtain ⟨⟨v0, v1, z⟩, hv⟩ : ∃ v, vl[k]? = some v := ⟨_, List.getElem?_eq_getElem (by rw [HE2.out]; omega)⟩
      have hn1 : 0 ≤ n0 := hrng.1
      have hn2 : n0 + 1 ≤ 140737488355329 := by have := hrng.2; omega
      have HN : Hid (∀ {y : Zn}, addZ (n0, s, (a0, a1, az), (b0, b1, bz)) (v0, v1, z) = y → zoV (vl.take (k + 1)) = y) := Lib.hid fun h => by rw [zoV_snoc hv, hz]; exact h
      have HLOW := Lib.hid fun (hs : s = true) (hc : cmpV (v0, v1, z) (a0, a1, az) < 0) => zoV_low (by rw [hz, hs]) hc
      obtain ⟨b', o', rfl, hb0', e0, e1, e2⟩ := (hr.below hb).val hv
      clear hrng hz hv
      have kv := Blk.new wr 51 #[.int .i64 v0, .int .i64 v1, .string ⟨z.toArray⟩]
      have kz1 := kz.alloc (.cells #[.int .i64 v0, .int .i64 v1, .string ⟨z.toArray⟩] 51)
      have kr1 := kr.alloc (.cells #[.int .i64 v0, .int .i64 v1, .string ⟨z.toArray⟩] 51)
      have hb1 := hb.alloc hb.size (.cells #[.int .i64 v0, .int .i64 v1, .string ⟨z.toArray⟩] 51)
      have hne1 : ¬ (w.heap.size + 1 = wr.heap.size) := by have := kz.lt; omega
      have hne2 : ¬ (wr.heap.size = w.heap.size + 1) := by have := kz.lt; omega
      by_cases h0 : v0 = 0
      · subst h0
        obtain ⟨x0, x1, x2⟩ := blk3 kv
        obtain ⟨y0, y1, y2, y3, y4, y5, y6, y7⟩ := blk8 kz1
        have HN0 := Lib.hid (HN.out (addZ_0 rfl))
        have z0 := kz1.frozen 0
        have K9 := Lib.hid (show Blk _ (w.heap.size + 1) 55 #[.int .i64 (n0 + 1), .bool s, .int .i64 a0, .int .i64 a1, .string ⟨az.toArray⟩, .int .i64 b0, .int .i64 b1, .string ⟨bz.toArray⟩] by simpa using (kz1.set_ 0 (.int .i64 (n0 + 1))))
        have B9 := Lib.hid ((hb1.setCell (p := ⟨w.heap.size + 1, 0, none⟩) (by show w.heap.size ≤ w.heap.size + 1; omega) (.int .i64 (n0 + 1))))
        have R9 := Lib.hid ((kr1.far (p := ⟨w.heap.size + 1, 0, none⟩) (show w.heap.size ≠ w.heap.size + 1 by omega) (.int .i64 (n0 + 1))))
        clear kv kz kz1 kr kr1 hb hb1 HC HN HLOW
        go_wp2_with fail
        go_round
        case rel => exact ⟨k + 1, by omega, by go_num, B9.out, R9.out, _, HN0.out, K9.out⟩
        case measure => simp [intOf]; omega
      have q0 : (v0 == 0) = false := by simpa using h0
      have q1 : decide (v0 = 0) = false := by simpa using h0
      cases s with
      | false =>
        obtain ⟨x0, x1, x2⟩ := blk3 kv
        obtain ⟨y0, y1, y2, y3, y4, y5, y6, y7⟩ := blk8 kz1
        have HN0 := Lib.hid (HN.out (addZ_1 h0 rfl))
        have z1 := kz1.frozen 1
        have z2 := kz1.frozen 2
        have z3 := kz1.frozen 3
        have z4 := kz1.frozen 4
        have z5 := kz1.frozen 5
        have z6 := kz1.frozen 6
        have z7 := kz1.frozen 7
        have K9 := Lib.hid (show Blk _ (w.heap.size + 1) 55 #[.int .i64 n0, .bool true, .int .i64 v0, .int .i64 v1, .string ⟨z.toArray⟩, .int .i64 v0, .int .i64 v1, .string ⟨z.toArray⟩] by simpa using (((((((kz1.set_ 2 (.int .i64 v0)).set_ 3 (.int .i64 v1)).set_ 4 (.string ⟨z.toArray⟩)).set_ 5 (.int .i64 v0)).set_ 6 (.int .i64 v1)).set_ 7 (.string ⟨z.toArray⟩)).set_ 1 (.bool true)))
        have B9 := Lib.hid ((((((((hb1.setCell (p := ⟨w.heap.size + 1, 2, none⟩) (by show w.heap.size ≤ w.heap.size + 1; omega) (.int .i64 v0)).setCell (p := ⟨w.heap.size + 1, 3, none⟩) (by show w.heap.size ≤ w.heap.size + 1; omega) (.int .i64 v1)).setCell (p := ⟨w.heap.size + 1, 4, none⟩) (by show w.heap.size ≤ w.heap.size + 1; omega) (.string ⟨z.toArray⟩)).setCell (p := ⟨w.heap.size + 1, 5, none⟩) (by show w.heap.size ≤ w.heap.size + 1; omega) (.int .i64 v0)).setCell (p := ⟨w.heap.size + 1, 6, none⟩) (by show w.heap.size ≤ w.heap.size + 1; omega) (.int .i64 v1)).setCell (p := ⟨w.heap.size + 1, 7, none⟩) (by show w.heap.size ≤ w.heap.size + 1; omega) (.string ⟨z.toArray⟩)).setCell (p := ⟨w.heap.size + 1, 1, none⟩) (by show w.heap.size ≤ w.heap.size + 1; omega) (.bool true)))
        have R9 := Lib.hid ((((((((kr1.far (p := ⟨w.heap.size + 1, 2, none⟩) (show w.heap.size ≠ w.heap.size + 1 by omega) (.int .i64 v0)).far (p := ⟨w.heap.size + 1, 3, none⟩) (show w.heap.size ≠ w.heap.size + 1 by omega) (.int .i64 v1)).far (p := ⟨w.heap.size + 1, 4, none⟩) (show w.heap.size ≠ w.heap.size + 1 by omega) (.string ⟨z.toArray⟩)).far (p := ⟨w.heap.size + 1, 5, none⟩) (show w.heap.size ≠ w.heap.size + 1 by omega) (.int .i64 v0)).far (p := ⟨w.heap.size + 1, 6, none⟩) (show w.heap.size ≠ w.heap.size + 1 by omega) (.int .i64 v1)).far (p := ⟨w.heap.size + 1, 7, none⟩) (show w.heap.size ≠ w.heap.size + 1 by omega) (.string ⟨z.toArray⟩)).far (p := ⟨w.heap.size + 1, 1, none⟩) (show w.heap.size ≠ w.heap.size + 1 by omega) (.bool true)))
        clear kv kz kz1 kr kr1 hb hb1 HC HN HLOW
        go_wp2_with fail
        go_round
        case rel => exact ⟨k + 1, by omega, by go_num, B9.out, R9.out, _, HN0.out, K9.out⟩
        case measure => simp [intOf]; omega
      | true =>
        have hc2 := HC.out (v0, v1, z) (a0, a1, az)
        have hc3 := HC.out (v0, v1, z) (b0, b1, bz)
        obtain ⟨d, hd⟩ : ∃ d, cmpV (v0, v1, z) (a0, a1, az) = d := ⟨_, rfl⟩
        obtain ⟨d', hd'⟩ : ∃ d, cmpV (v0, v1, z) (b0, b1, bz) = d := ⟨_, rfl⟩
        rw [hd] at hc2
        rw [hd'] at hc3
        have HC2 := Lib.hid hc2; have HC3 := Lib.hid hc3
        have NL := Lib.hid (fun h => (by have := HLOW.out rfl (by rw [hd]; exact h); rwa [hd'] at this) : d < 0 → ¬ 0 < d')
        have N2 := Lib.hid (fun h => HN.out (addZ_2 h0 rfl (by show cmpV (v0, v1, z) (a0, a1, az) < 0; rw [hd]; exact h)) : d < 0 → _)
        have N3 := Lib.hid (fun h k => HN.out (addZ_3 h0 rfl (by show ¬ cmpV (v0, v1, z) (a0, a1, az) < 0; rw [hd]; exact h) (by show 0 < cmpV (v0, v1, z) (b0, b1, bz); rw [hd']; exact k)) : ¬ d < 0 → 0 < d' → _)
        have N4 := Lib.hid (fun h k => HN.out (addZ_4 h0 rfl (by show ¬ cmpV (v0, v1, z) (a0, a1, az) < 0; rw [hd]; exact h) (by show ¬ 0 < cmpV (v0, v1, z) (b0, b1, bz); rw [hd']; exact k)) : ¬ d < 0 → ¬ 0 < d' → _)
        clear hc2 hc3 HC HN HLOW hd hd'
        obtain ⟨x0, x1, x2⟩ := blk3 kv
        obtain ⟨y0, y1, y2, y3, y4, y5, y6, y7⟩ := blk8 kz1
        have Hkz1 := Lib.hid kz1; have Hhb1 := Lib.hid hb1; have Hkr1 := Lib.hid kr1; have Hkv := Lib.hid kv
        clear kv kz kz1 kr kr1 hb hb1
        go_wp2_with fail
        refine (HC2.out _).mono ?_
        rintro e w2 ⟨rfl, hx⟩
        have kz2 := Hkz1.out.below hx Hkz1.out.lt; have kr2 := Hkr1.out.below hx Hkr1.out.lt; have kv2 := Hkv.out.below hx Hkv.out.lt; have hb2 := Hhb1.out.trans (hx.mono Hhb1.out.size)
        clear hx x0 x1 x2 y0 y1 y2 y3 y4 y5 y6 y7 HC2 Hkz1 Hhb1 Hkr1 Hkv
        obtain ⟨x0, x1, x2⟩ := blk3 kv2
        obtain ⟨y0, y1, y2, y3, y4, y5, y6, y7⟩ := blk8 kz2
        by_cases c1 : d < 0
        · have hnd := NL.out c1
          have c1d : decide (d < 0) = true := by simpa using c1
          have c2d : decide (0 < d') = false := by simpa using hnd
          have z2 := kz2.frozen 2; have z3 := kz2.frozen 3; have z4 := kz2.frozen 4
          have ne3 : w.heap.size + 1 ≠ wr.heap.size := by omega
          have kz3 : Blk (((w2.setCell ⟨w.heap.size + 1, 2, none⟩ (.int .i64 v0)).setCell ⟨w.heap.size + 1, 3, none⟩ (.int .i64 v1)).setCell ⟨w.heap.size + 1, 4, none⟩ (.string ⟨z.toArray⟩)) (w.heap.size + 1) 55 #[.int .i64 n0, .bool true, .int .i64 v0, .int .i64 v1, .string ⟨z.toArray⟩, .int .i64 b0, .int .i64 b1, .string ⟨bz.toArray⟩] := by simpa using (((kz2.set_ 2 (.int .i64 v0)).set_ 3 (.int .i64 v1)).set_ 4 (.string ⟨z.toArray⟩))
          have kr3 := (((kr2.far (p := ⟨w.heap.size + 1, 2, none⟩) (show w.heap.size ≠ w.heap.size + 1 by omega) (.int .i64 v0)).far (p := ⟨w.heap.size + 1, 3, none⟩) (show w.heap.size ≠ w.heap.size + 1 by omega) (.int .i64 v1)).far (p := ⟨w.heap.size + 1, 4, none⟩) (show w.heap.size ≠ w.heap.size + 1 by omega) (.string ⟨z.toArray⟩))
          have hb3 := (((hb2.setCell (p := ⟨w.heap.size + 1, 2, none⟩) (by show w.heap.size ≤ w.heap.size + 1; omega) (.int .i64 v0)).setCell (p := ⟨w.heap.size + 1, 3, none⟩) (by show w.heap.size ≤ w.heap.size + 1; omega) (.int .i64 v1)).setCell (p := ⟨w.heap.size + 1, 4, none⟩) (by show w.heap.size ≤ w.heap.size + 1; omega) (.string ⟨z.toArray⟩))
          have kv3 := ((kv2.far (p := ⟨w.heap.size + 1, 2, none⟩) (show wr.heap.size ≠ w.heap.size + 1 by omega) (.int .i64 v0)).far (p := ⟨w.heap.size + 1, 3, none⟩) (show wr.heap.size ≠ w.heap.size + 1 by omega) (.int .i64 v1)).far (p := ⟨w.heap.size + 1, 4, none⟩) (show wr.heap.size ≠ w.heap.size + 1 by omega) (.string ⟨z.toArray⟩)
          have HKZ3 := Lib.hid kz3; have HKR3 := Lib.hid kr3; have HB3 := Lib.hid hb3; have HKV3 := Lib.hid kv3
          clear kz2 kr2 kv2 hb2 kz3 kr3 hb3 kv3
          go_upto_region 10 with fail
          obtain ⟨W3, hW3⟩ : ∃ q, ((w2.setCell ⟨w.heap.size + 1, 2, none⟩ (.int .i64 v0)).setCell ⟨w.heap.size + 1, 3, none⟩ (.int .i64 v1)).setCell ⟨w.heap.size + 1, 4, none⟩ (.string ⟨z.toArray⟩) = q := ⟨_, rfl⟩
          rw [hW3] at HKZ3 HKR3 HB3 HKV3 ⊢
          clear hW3 z2 z3 z4 x0 x1 x2 y0 y1 y2 y3 y4 y5 y6 y7
          obtain ⟨x0, x1, x2⟩ := blk3 HKV3.out
          obtain ⟨y0, y1, y2, y3, y4, y5, y6, y7⟩ := blk8 HKZ3.out
          go_wp2_with fail
          refine (HC3.out _).mono ?_
          rintro e w4 ⟨rfl, hx⟩
          have kz4 := HKZ3.out.below hx HKZ3.out.lt; have kr4 := HKR3.out.below hx HKR3.out.lt; have kv4 := HKV3.out.below hx HKV3.out.lt; have hb4 := HB3.out.trans (hx.mono HB3.out.size)
          clear hx x0 x1 x2 y0 y1 y2 y3 y4 y5 y6 y7 HC3 HKZ3 HKR3 HB3 HKV3
          obtain ⟨x0, x1, x2⟩ := blk3 kv4
          obtain ⟨y0, y1, y2, y3, y4, y5, y6, y7⟩ := blk8 kz4
          have HN0 := Lib.hid (N2.out (by omega))
          have z1 := kz4.frozen 1
          have K9 := Lib.hid (show Blk _ (w.heap.size + 1) 55 #[.int .i64 n0, .bool true, .int .i64 v0, .int .i64 v1, .string ⟨z.toArray⟩, .int .i64 b0, .int .i64 b1, .string ⟨bz.toArray⟩] by simpa using (kz4.set_ 1 (.bool true)))
          have B9 := Lib.hid ((hb4.setCell (p := ⟨w.heap.size + 1, 1, none⟩) (by show w.heap.size ≤ w.heap.size + 1; omega) (.bool true)))
          have R9 := Lib.hid ((kr4.far (p := ⟨w.heap.size + 1, 1, none⟩) (show w.heap.size ≠ w.heap.size + 1 by omega) (.bool true)))
          clear kz4 kr4 kv4 hb4 N2 N3 N4 NL
          go_wp2_with fail
          go_round
          case rel => exact ⟨k + 1, by omega, by go_num, B9.out, R9.out, _, HN0.out, K9.out⟩
          case measure => simp [intOf]; omega
        have c1d : decide (d < 0) = false := by simpa using c1
        have HKZ3 := Lib.hid kz2; have HKR3 := Lib.hid kr2; have HB3 := Lib.hid hb2; have HKV3 := Lib.hid kv2
        clear kz2 kr2 kv2 hb2 x0 x1 x2 y0 y1 y2 y3 y4 y5 y6 y7
        obtain ⟨x0, x1, x2⟩ := blk3 HKV3.out
        obtain ⟨y0, y1, y2, y3, y4, y5, y6, y7⟩ := blk8 HKZ3.out
        go_wp2_with fail
        refine (HC3.out _).mono ?_
        rintro e w4 ⟨rfl, hx⟩
        have kz4 := HKZ3.out.below hx HKZ3.out.lt; have kr4 := HKR3.out.below hx HKR3.out.lt; have kv4 := HKV3.out.below hx HKV3.out.lt; have hb4 := HB3.out.trans (hx.mono HB3.out.size)
        clear hx x0 x1 x2 y0 y1 y2 y3 y4 y5 y6 y7 HC3 HKZ3 HKR3 HB3 HKV3
        obtain ⟨x0, x1, x2⟩ := blk3 kv4
        obtain ⟨y0, y1, y2, y3, y4, y5, y6, y7⟩ := blk8 kz4
        by_cases c2 : 0 < d'
        · have c2d : decide (0 < d') = true := by simpa using c2
          have HN0 := Lib.hid (N3.out (by omega) (by omega))
          have z1 := kz4.frozen 1
          have z5 := kz4.frozen 5
          have z6 := kz4.frozen 6
          have z7 := kz4.frozen 7
          have K9 := Lib.hid (show Blk _ (w.heap.size + 1) 55 #[.int .i64 n0, .bool true, .int .i64 a0, .int .i64 a1, .string ⟨az.toArray⟩, .int .i64 v0, .int .i64 v1, .string ⟨z.toArray⟩] by simpa using ((((kz4.set_ 5 (.int .i64 v0)).set_ 6 (.int .i64 v1)).set_ 7 (.string ⟨z.toArray⟩)).set_ 1 (.bool true)))
          have B9 := Lib.hid (((((hb4.setCell (p := ⟨w.heap.size + 1, 5, none⟩) (by show w.heap.size ≤ w.heap.size + 1; omega) (.int .i64 v0)).setCell (p := ⟨w.heap.size + 1, 6, none⟩) (by show w.heap.size ≤ w.heap.size + 1; omega) (.int .i64 v1)).setCell (p := ⟨w.heap.size + 1, 7, none⟩) (by show w.heap.size ≤ w.heap.size + 1; omega) (.string ⟨z.toArray⟩)).setCell (p := ⟨w.heap.size + 1, 1, none⟩) (by show w.heap.size ≤ w.heap.size + 1; omega) (.bool true)))
          have R9 := Lib.hid (((((kr4.far (p := ⟨w.heap.size + 1, 5, none⟩) (show w.heap.size ≠ w.heap.size + 1 by omega) (.int .i64 v0)).far (p := ⟨w.heap.size + 1, 6, none⟩) (show w.heap.size ≠ w.heap.size + 1 by omega) (.int .i64 v1)).far (p := ⟨w.heap.size + 1, 7, none⟩) (show w.heap.size ≠ w.heap.size + 1 by omega) (.string ⟨z.toArray⟩)).far (p := ⟨w.heap.size + 1, 1, none⟩) (show w.heap.size ≠ w.heap.size + 1 by omega) (.bool true)))
          clear kz4 kr4 kv4 hb4 N2 N3 N4 NL
          go_wp2_with fail
          go_round
          case rel => exact ⟨k + 1, by omega, by go_num, B9.out, R9.out, _, HN0.out, K9.out⟩
          case measure => simp [intOf]; omega
        have c2d : decide (0 < d') = false := by simpa using c2
        have HN0 := Lib.hid (N4.out (by omega) (by omega))
        have z1 := kz4.frozen 1
        have K9 := Lib.hid (show Blk _ (w.heap.size + 1) 55 #[.int .i64 n0, .bool true, .int .i64 a0, .int .i64 a1, .string ⟨az.toArray⟩, .int .i64 b0, .int .i64 b1, .string ⟨bz.toArray⟩] by simpa using (kz4.set_ 1 (.bool true)))
        have B9 := Lib.hid ((hb4.setCell (p := ⟨w.heap.size + 1, 1, none⟩) (by show w.heap.size ≤ w.heap.size + 1; omega) (.bool true)))
        have R9 := Lib.hid ((kr4.far (p := ⟨w.heap.size + 1, 1, none⟩) (show w.heap.size ≠ w.heap.size + 1 by omega) (.bool true)))
        clear kz4 kr4 kv4 hb4 N2 N3 N4 NL
        go_wp2_with fail
        go_round
        case rel => exact ⟨k + 1, by omega, by go_num, B9.out, R9.out, _, HN0.out, K9.out⟩
        case measure => simp [intOf]; omega
    · obtain rfl : k = n := by omega
      rw [List.take_of_length_le (by rw [HE2.out]; exact Nat.le_refl _)] at hz
      have HZ := Lib.hid hz; have HKZ := Lib.hid kz; have HKR := Lib.hid kr; have HB := Lib.hid hb
      clear hz kz kr hb hrng
      obtain ⟨x0, x1, x2, x3, x4, x5, x6, x7⟩ := blk8 HKR.out
      obtain ⟨y0, y1, y2, y3, y4, y5, y6, y7⟩ := blk8 HKZ.out
      have f0 := HKR.out.frozen 0; have f1 := HKR.out.frozen 1; have f2 := HKR.out.frozen 2; have f3 := HKR.out.frozen 3; have f4 := HKR.out.frozen 4; have f5 := HKR.out.frozen 5; have f6 := HKR.out.frozen 6; have f7 := HKR.out.frozen 7
      have K9 := Lib.hid (show Blk _ w.heap.size 55 #[.int .i64 n0, .bool s, .int .i64 a0, .int .i64 a1, .string ⟨az.toArray⟩, .int .i64 b0, .int .i64 b1, .string ⟨bz.toArray⟩] by simpa using ((((((((HKR.out.set_ 0 (.int .i64 n0)).set_ 1 (.bool s)).set_ 2 (.int .i64 a0)).set_ 3 (.int .i64 a1)).set_ 4 (.string ⟨az.toArray⟩)).set_ 5 (.int .i64 b0)).set_ 6 (.int .i64 b1)).set_ 7 (.string ⟨bz.toArray⟩)))
      have B9 := Lib.hid ((((((((HB.out.setCell (p := ⟨w.heap.size, 0, none⟩) (Nat.le_refl _) (.int .i64 n0)).setCell (p := ⟨w.heap.size, 1, none⟩) (Nat.le_refl _) (.bool s)).setCell (p := ⟨w.heap.size, 2, none⟩) (Nat.le_refl _) (.int .i64 a0)).setCell (p := ⟨w.heap.size, 3, none⟩) (Nat.le_refl _) (.int .i64 a1)).setCell (p := ⟨w.heap.size, 4, none⟩) (Nat.le_refl _) (.string ⟨az.toArray⟩)).setCell (p := ⟨w.heap.size, 5, none⟩) (Nat.le_refl _) (.int .i64 b0)).setCell (p := ⟨w.heap.size, 6, none⟩) (Nat.le_refl _) (.int .i64 b1)).setCell (p := ⟨w.heap.size, 7, none⟩) (Nat.le_refl _) (.string ⟨bz.toArray⟩))
      go_wp2_with fail
      exact bodyPost_ret (v := .agg #[.int .i64 n0, .bool s, .int .i64 a0, .int .i64 a1, .string ⟨az.toArray⟩, .int .i64 b0, .int .i64 b1, .string ⟨bz.toArray⟩]) (results_cell_row rfl _ _ _ _ _ _ _ (by rfl) K9.out Tryz.underlying55 rfl (by kernel_rfl)) rfl ⟨by rw [HZ.out]; rfl, B9.out⟩
end Go.Proofs.YtpgdlmnhomnblaaGreatDoor
