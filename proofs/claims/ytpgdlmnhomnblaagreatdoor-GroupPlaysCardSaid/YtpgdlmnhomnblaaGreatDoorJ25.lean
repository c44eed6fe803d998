import Derived.Deep.RegionLaw
import Derived.Test.YtpgdlmnhomnblaaGreatDoorJ24
import Derived.Test.YtpgdlmnhomnblaaGreatDoorJ21
import Derived.Test.YtpgdlmnhomnblaaGreatDoorJ1
import Derived.Test.YtpgdlmnhomnblaaGreatDoorJ2
import Derived.Deep.LoopGhost
namespace Go.Proofs.YtpgdlmnhomnblaaGreatDoor
open Go.RowKit
set_option linter.unusedVariables false
set_option linter.unusedSimpArgs false
set_option maxRecDepth 100000
def zA (z : Zn) : Array Value := #[.int .i64 z.1, .bool z.2.1, .int .i64 z.2.2.1.1, .int .i64 z.2.2.1.2.1, .string ⟨z.2.2.1.2.2.toArray⟩, .int .i64 z.2.2.2.1, .int .i64 z.2.2.2.2.1, .string ⟨z.2.2.2.2.2.toArray⟩]
theorem zoV_snoc {l : List Vl} {k : Nat} {v : Vl} (h : l[k]? = some v) : zoV (l.take (k + 1)) = addZ (zoV (l.take k)) v := by
  rw [List.take_add_one, h]
  simp [zoV, List.foldl_append]
theorem addZ_0 {z : Zn} {v : Vl} (h : v.1 = 0) : addZ z v = (z.1 + 1, z.2) := by unfold addZ; rw [if_pos h]
theorem addZ_1 {z : Zn} {v : Vl} (h : v.1 ≠ 0) (hs : z.2.1 = false) : addZ z v = (z.1, true, v, v) := by unfold addZ; rw [if_neg h, if_pos hs]
theorem addZ_2 {z : Zn} {v : Vl} (h : v.1 ≠ 0) (hs : z.2.1 = true) (hc : cmpV v z.2.2.1 < 0) : addZ z v = (z.1, true, v, z.2.2.2) := by unfold addZ; rw [if_neg h, if_neg (by simp [hs]), if_pos hc]
theorem addZ_3 {z : Zn} {v : Vl} (h : v.1 ≠ 0) (hs : z.2.1 = true) (hc : ¬ cmpV v z.2.2.1 < 0) (hd : 0 < cmpV v z.2.2.2) : addZ z v = (z.1, true, z.2.2.1, v) := by unfold addZ; rw [if_neg h, if_neg (by simp [hs]), if_neg hc, if_pos hd]
theorem addZ_4 {z : Zn} {v : Vl} (h : v.1 ≠ 0) (hs : z.2.1 = true) (hc : ¬ cmpV v z.2.2.1 < 0) (hd : ¬ 0 < cmpV v z.2.2.2) : addZ z v = z := by unfold addZ; rw [if_neg h, if_neg (by simp [hs]), if_neg hc, if_neg hd]
set_option maxHeartbeats 4000000 in
theorem zoneOf_any {w : World} {A : Option Addr} {n c : Nat} {vl : List Vl} (hr : Reads w w.heap.size 3 A n (vs vl)) (hn : n ≤ 140737488355328) :
    Calls Tryz.prog 21 #[.slice A n c] w fun e w' => e = .returned (zW (zoV vl)) ∧ Below w.heap.size w w' := by
  have e2 : vl.length = n := by have := hr.1; rw [vs_length] at this; omega
  have HE2 := Lib.hid e2
  have HC := Lib.hid (show CmpC from cmpC_any)
  have kz := Blk.new (w.alloc (.cells #[.int .i64 0, .bool false, .int .i64 0, .int .i64 0, .string ⟨#[]⟩, .int .i64 0, .int .i64 0, .string ⟨#[]⟩] 55)) 55 #[.int .i64 0, .bool false, .int .i64 0, .int .i64 0, .string ⟨#[]⟩, .int .i64 0, .int .i64 0, .string ⟨#[]⟩]
  have kr := (Blk.new w 55 #[.int .i64 0, .bool false, .int .i64 0, .int .i64 0, .string ⟨#[]⟩, .int .i64 0, .int .i64 0, .string ⟨#[]⟩]).alloc (.cells #[.int .i64 0, .bool false, .int .i64 0, .int .i64 0, .string ⟨#[]⟩, .int .i64 0, .int .i64 0, .string ⟨#[]⟩] 55)
  have hb := ((Below.refl w.heap.size w).alloc (Nat.le_refl _) (.cells #[.int .i64 0, .bool false, .int .i64 0, .int .i64 0, .string ⟨#[]⟩, .int .i64 0, .int .i64 0, .string ⟨#[]⟩] 55)).alloc (by simp) (.cells #[.int .i64 0, .bool false, .int .i64 0, .int .i64 0, .string ⟨#[]⟩, .int .i64 0, .int .i64 0, .string ⟨#[]⟩] 55)
  rw [World.size_alloc] at kz
  have HKZ := Lib.hid kz; have HKR := Lib.hid kr; have HB := Lib.hid hb
  clear kz kr hb e2
  go_enter Tryz.func21, Tryz.ntmps21
  go_wp2_with fail
  go_loopw [8] (fun i wr => ∃ k : Nat, k ≤ n ∧ i = .int .i64 (k : Int) ∧ Below w.heap.size w wr ∧ Blk wr w.heap.size 55 #[.int .i64 0, .bool false, .int .i64 0, .int .i64 0, .string ⟨#[]⟩, .int .i64 0, .int .i64 0, .string ⟨#[]⟩] ∧ ∃ zz, zoV (vl.take k) = zz ∧ Blk wr (w.heap.size + 1) 55 (zA zz)) (fun i _ => n - (intOf i).toNat)
  case atStart => exact ⟨0, Nat.zero_le _, rfl, HB.out, HKR.out, _, rfl, HKZ.out⟩
  case round =>
    clear HB HKZ HKR
    obtain ⟨k, hk, rfl, hb, kr, ⟨n0, s, ⟨a0, a1, az⟩, ⟨b0, b1, bz⟩⟩, hz, kz⟩ := hrel
    have hrng := (zoV_of (vl.take k)).range
    rw [hz] at hrng
    simp only [List.length_take] at hrng
    have kz : Blk wr (w.heap.size + 1) 55 #[.int .i64 n0, .bool s, .int .i64 a0, .int .i64 a1, .string ⟨az.toArray⟩, .int .i64 b0, .int .i64 b1, .string ⟨bz.toArray⟩] := kz
    by_cases hlt : k < n
    · obtain ⟨⟨v0, v1, z⟩, hv⟩ : ∃ v, vl[k]? = some v := ⟨_, List.getElem?_eq_getElem (by rw [HE2.out]; omega)⟩
      have hn1 : 0 ≤ n0 := hrng.1
      have hn2 : n0 + 1 ≤ 140737488355329 := by have := hrng.2; omega
      have HN : Hid (∀ {y : Zn}, addZ (n0, s, (a0, a1, az), (b0, b1, bz)) (v0, v1, z) = y → zoV (vl.take (k + 1)) = y) := Lib.hid fun h => by rw [zoV_snoc hv, hz]; exact h
      obtain ⟨b', o', rfl, hb0', e0, e1, e2⟩ := (hr.below hb).val hv
      clear hrng hz hv
      have kv := Blk.new wr 51 #[.int .i64 v0, .int .i64 v1, .string ⟨z.toArray⟩]
      have kz1 := kz.alloc (.cells #[.int .i64 v0, .int .i64 v1, .string ⟨z.toArray⟩] 51)
      have kr1 := kr.alloc (.cells #[.int .i64 v0, .int .i64 v1, .string ⟨z.toArray⟩] 51)
      have hb1 := hb.alloc hb.size (.cells #[.int .i64 v0, .int .i64 v1, .string ⟨z.toArray⟩] 51)
      have hne1 : ¬ (w.heap.size + 1 = wr.heap.size) := by have := kz.lt; omega
      have hne2 : ¬ (wr.heap.size = w.heap.size + 1) := by have := kz.lt; omega
      by_cases h0 : v0 = 0
      · subst h0
        have HN0 := Lib.hid (HN.out (addZ_0 rfl))
        clear HN HC
        obtain ⟨x0, x1, x2⟩ := blk3 kv
        obtain ⟨y0, y1, y2, y3, y4, y5, y6, y7⟩ := blk8 kz1
        have z0 := kz1.frozen 0
        have K9 := Lib.hid (show Blk _ (w.heap.size + 1) 55 #[.int .i64 (n0 + 1), .bool s, .int .i64 a0, .int .i64 a1, .string ⟨az.toArray⟩, .int .i64 b0, .int .i64 b1, .string ⟨bz.toArray⟩] by simpa using (kz1.set_ 0 (.int .i64 (n0 + 1))))
        have B9 := Lib.hid ((hb1.setCell (p := ⟨w.heap.size + 1, 0, none⟩) (by show w.heap.size ≤ w.heap.size + 1; omega) (.int .i64 (n0 + 1))))
        have R9 := Lib.hid ((kr1.far (p := ⟨w.heap.size + 1, 0, none⟩) (show w.heap.size ≠ w.heap.size + 1 by omega) (.int .i64 (n0 + 1))))
        clear kv kz kz1 kr kr1 hb hb1
        go_wp2_with fail
        go_round
        case rel => exact ⟨k + 1, by omega, rfl, B9.out, R9.out, _, HN0.out, K9.out⟩
        case measure => simp [intOf]; omega
      have q0 : (v0 == 0) = false := by simpa using h0
      have q1 : decide (v0 = 0) = false := by simpa using h0
      cases s with
      | false =>
        have HN0 := Lib.hid (HN.out (addZ_1 h0 rfl))
        clear HN HC
        obtain ⟨x0, x1, x2⟩ := blk3 kv
        obtain ⟨y0, y1, y2, y3, y4, y5, y6, y7⟩ := blk8 kz1
        have z1 := kz1.frozen 1; have z2 := kz1.frozen 2; have z3 := kz1.frozen 3; have z4 := kz1.frozen 4; have z5 := kz1.frozen 5; have z6 := kz1.frozen 6; have z7 := kz1.frozen 7
        have K9 := Lib.hid (show Blk _ (w.heap.size + 1) 55 #[.int .i64 n0, .bool true, .int .i64 v0, .int .i64 v1, .string ⟨z.toArray⟩, .int .i64 v0, .int .i64 v1, .string ⟨z.toArray⟩] by simpa using ((((((((kz1.set_ 1 (.bool true)).set_ 2 (.int .i64 v0)).set_ 3 (.int .i64 v1)).set_ 4 (.string ⟨z.toArray⟩)).set_ 5 (.int .i64 v0)).set_ 6 (.int .i64 v1)).set_ 7 (.string ⟨z.toArray⟩))).drew)
        have B9 := Lib.hid (below_drewR (((((((hb1.setCell (p := ⟨w.heap.size + 1, 1, none⟩) (by show w.heap.size ≤ w.heap.size + 1; omega) (.bool true)).setCell (p := ⟨w.heap.size + 1, 2, none⟩) (by show w.heap.size ≤ w.heap.size + 1; omega) (.int .i64 v0)).setCell (p := ⟨w.heap.size + 1, 3, none⟩) (by show w.heap.size ≤ w.heap.size + 1; omega) (.int .i64 v1)).setCell (p := ⟨w.heap.size + 1, 4, none⟩) (by show w.heap.size ≤ w.heap.size + 1; omega) (.string ⟨z.toArray⟩)).setCell (p := ⟨w.heap.size + 1, 5, none⟩) (by show w.heap.size ≤ w.heap.size + 1; omega) (.int .i64 v0)).setCell (p := ⟨w.heap.size + 1, 6, none⟩) (by show w.heap.size ≤ w.heap.size + 1; omega) (.int .i64 v1)).setCell (p := ⟨w.heap.size + 1, 7, none⟩) (by show w.heap.size ≤ w.heap.size + 1; omega) (.string ⟨z.toArray⟩)))
        have R9 := Lib.hid (((((((((kr1.far (p := ⟨w.heap.size + 1, 1, none⟩) (show w.heap.size ≠ w.heap.size + 1 by omega) (.bool true)).far (p := ⟨w.heap.size + 1, 2, none⟩) (show w.heap.size ≠ w.heap.size + 1 by omega) (.int .i64 v0)).far (p := ⟨w.heap.size + 1, 3, none⟩) (show w.heap.size ≠ w.heap.size + 1 by omega) (.int .i64 v1)).far (p := ⟨w.heap.size + 1, 4, none⟩) (show w.heap.size ≠ w.heap.size + 1 by omega) (.string ⟨z.toArray⟩)).far (p := ⟨w.heap.size + 1, 5, none⟩) (show w.heap.size ≠ w.heap.size + 1 by omega) (.int .i64 v0)).far (p := ⟨w.heap.size + 1, 6, none⟩) (show w.heap.size ≠ w.heap.size + 1 by omega) (.int .i64 v1)).far (p := ⟨w.heap.size + 1, 7, none⟩) (show w.heap.size ≠ w.heap.size + 1 by omega) (.string ⟨z.toArray⟩))).drew)
        clear kv kz kz1 kr kr1 hb hb1
        go_wp2_with fail
        go_region
        go_wp2_with fail
        go_round
        case rel => exact ⟨k + 1, by omega, rfl, B9.out, R9.out, _, HN0.out, K9.out⟩
        case measure => simp [intOf]; omega
      | true =>
        have hc2 := HC.out (v0, v1, z) (a0, a1, az)
        have hc3 := HC.out (v0, v1, z) (b0, b1, bz)
        obtain ⟨d, hd⟩ : ∃ d, cmpV (v0, v1, z) (a0, a1, az) = d := ⟨_, rfl⟩
        obtain ⟨d', hd'⟩ : ∃ d, cmpV (v0, v1, z) (b0, b1, bz) = d := ⟨_, rfl⟩
        rw [hd] at hc2
        rw [hd'] at hc3
        have HC2 := Lib.hid hc2; have HC3 := Lib.hid hc3
        have N2 := Lib.hid (fun h => HN.out (addZ_2 h0 rfl (by show cmpV (v0, v1, z) (a0, a1, az) < 0; rw [hd]; exact h)) : d < 0 → _)
        have N3 := Lib.hid (fun h k => HN.out (addZ_3 h0 rfl (by show ¬ cmpV (v0, v1, z) (a0, a1, az) < 0; rw [hd]; exact h) (by show 0 < cmpV (v0, v1, z) (b0, b1, bz); rw [hd']; exact k)) : ¬ d < 0 → 0 < d' → _)
        have N4 := Lib.hid (fun h k => HN.out (addZ_4 h0 rfl (by show ¬ cmpV (v0, v1, z) (a0, a1, az) < 0; rw [hd]; exact h) (by show ¬ 0 < cmpV (v0, v1, z) (b0, b1, bz); rw [hd']; exact k)) : ¬ d < 0 → ¬ 0 < d' → _)
        clear hc2 hc3 HC HN hd hd'
        obtain ⟨x0, x1, x2⟩ := blk3 kv
        obtain ⟨y0, y1, y2, y3, y4, y5, y6, y7⟩ := blk8 kz1
        have Hkz1 := Lib.hid kz1; have Hhb1 := Lib.hid hb1; have Hkr1 := Lib.hid kr1; have Hkv := Lib.hid kv
        clear kv kz kz1 kr kr1 hb hb1
        go_wp2_with fail
        refine (HC2.out _).mono ?_
        rintro e w2 ⟨rfl, hx⟩
        have kz2' := Hkz1.out.below hx Hkz1.out.lt; have kr2' := Hkr1.out.below hx Hkr1.out.lt; have kv2' := Hkv.out.below hx Hkv.out.lt; have hb2' := Hhb1.out.trans (hx.mono Hhb1.out.size)
        clear hx x0 x1 x2 y0 y1 y2 y3 y4 y5 y6 y7
        obtain ⟨x0, x1, x2⟩ := blk3 kv2'
        obtain ⟨y0, y1, y2, y3, y4, y5, y6, y7⟩ := blk8 kz2'
        by_cases c1 : d < 0
        · have HN0 := Lib.hid (N2.out (by omega))
          have z2 := kz2'.frozen 2; have z3 := kz2'.frozen 3; have z4 := kz2'.frozen 4
          have K9 := Lib.hid (show Blk _ (w.heap.size + 1) 55 #[.int .i64 n0, .bool true, .int .i64 v0, .int .i64 v1, .string ⟨z.toArray⟩, .int .i64 b0, .int .i64 b1, .string ⟨bz.toArray⟩] by simpa using (((kz2'.set_ 2 (.int .i64 v0)).set_ 3 (.int .i64 v1)).set_ 4 (.string ⟨z.toArray⟩)))
          have B9 := Lib.hid ((((hb2'.setCell (p := ⟨w.heap.size + 1, 2, none⟩) (by show w.heap.size ≤ w.heap.size + 1; omega) (.int .i64 v0)).setCell (p := ⟨w.heap.size + 1, 3, none⟩) (by show w.heap.size ≤ w.heap.size + 1; omega) (.int .i64 v1)).setCell (p := ⟨w.heap.size + 1, 4, none⟩) (by show w.heap.size ≤ w.heap.size + 1; omega) (.string ⟨z.toArray⟩)))
          have R9 := Lib.hid ((((kr2'.far (p := ⟨w.heap.size + 1, 2, none⟩) (show w.heap.size ≠ w.heap.size + 1 by omega) (.int .i64 v0)).far (p := ⟨w.heap.size + 1, 3, none⟩) (show w.heap.size ≠ w.heap.size + 1 by omega) (.int .i64 v1)).far (p := ⟨w.heap.size + 1, 4, none⟩) (show w.heap.size ≠ w.heap.size + 1 by omega) (.string ⟨z.toArray⟩)))
          clear kz2' kr2' kv2' hb2' Hkz1 Hhb1 Hkr1 Hkv HC2 HC3 N2 N3 N4
          go_wp2_with fail
          go_round
          case rel => exact ⟨k + 1, by omega, rfl, B9.out, R9.out, _, HN0.out, K9.out⟩
          case measure => simp [intOf]; omega
        have Hkz2' := Lib.hid kz2'; have Hhb2' := Lib.hid hb2'; have Hkr2' := Lib.hid kr2'; have Hkv2' := Lib.hid kv2'
        clear kz2' kr2' kv2' hb2' Hkz1 Hhb1 Hkr1 Hkv HC2
        go_wp2_with fail
        refine (HC3.out _).mono ?_
        rintro e w3 ⟨rfl, hx⟩
        have kz3' := Hkz2'.out.below hx Hkz2'.out.lt; have kr3' := Hkr2'.out.below hx Hkr2'.out.lt; have kv3' := Hkv2'.out.below hx Hkv2'.out.lt; have hb3' := Hhb2'.out.trans (hx.mono Hhb2'.out.size)
        clear hx x0 x1 x2 y0 y1 y2 y3 y4 y5 y6 y7
        obtain ⟨x0, x1, x2⟩ := blk3 kv3'
        obtain ⟨y0, y1, y2, y3, y4, y5, y6, y7⟩ := blk8 kz3'
        by_cases c2 : 0 < d'
        · have HN0 := Lib.hid (N3.out (by omega) (by omega))
          have z5 := kz3'.frozen 5; have z6 := kz3'.frozen 6; have z7 := kz3'.frozen 7
          have K9 := Lib.hid (show Blk _ (w.heap.size + 1) 55 #[.int .i64 n0, .bool true, .int .i64 a0, .int .i64 a1, .string ⟨az.toArray⟩, .int .i64 v0, .int .i64 v1, .string ⟨z.toArray⟩] by simpa using (((kz3'.set_ 5 (.int .i64 v0)).set_ 6 (.int .i64 v1)).set_ 7 (.string ⟨z.toArray⟩)))
          have B9 := Lib.hid ((((hb3'.setCell (p := ⟨w.heap.size + 1, 5, none⟩) (by show w.heap.size ≤ w.heap.size + 1; omega) (.int .i64 v0)).setCell (p := ⟨w.heap.size + 1, 6, none⟩) (by show w.heap.size ≤ w.heap.size + 1; omega) (.int .i64 v1)).setCell (p := ⟨w.heap.size + 1, 7, none⟩) (by show w.heap.size ≤ w.heap.size + 1; omega) (.string ⟨z.toArray⟩)))
          have R9 := Lib.hid ((((kr3'.far (p := ⟨w.heap.size + 1, 5, none⟩) (show w.heap.size ≠ w.heap.size + 1 by omega) (.int .i64 v0)).far (p := ⟨w.heap.size + 1, 6, none⟩) (show w.heap.size ≠ w.heap.size + 1 by omega) (.int .i64 v1)).far (p := ⟨w.heap.size + 1, 7, none⟩) (show w.heap.size ≠ w.heap.size + 1 by omega) (.string ⟨z.toArray⟩)))
          clear kz3' kr3' kv3' hb3' Hkz2' Hhb2' Hkr2' Hkv2' HC3 N2 N3 N4
          go_wp2_with fail
          go_round
          case rel => exact ⟨k + 1, by omega, rfl, B9.out, R9.out, _, HN0.out, K9.out⟩
          case measure => simp [intOf]; omega
        · have HN0 := Lib.hid (N4.out (by omega) (by omega))
          have K9 := Lib.hid kz3'; have B9 := Lib.hid hb3'; have R9 := Lib.hid kr3'
          clear kz3' kr3' kv3' hb3' Hkz2' Hhb2' Hkr2' Hkv2' HC3 N2 N3 N4
          go_wp2_with fail
          go_round
          case rel => exact ⟨k + 1, by omega, rfl, B9.out, R9.out, _, HN0.out, K9.out⟩
          case measure => simp [intOf]; omega
    · obtain rfl : k = n := by omega
      have HZ : Hid (zoV vl = (n0, s, (a0, a1, az), (b0, b1, bz))) := Lib.hid (by rw [← hz, List.take_of_length_le (by rw [HE2.out]; exact Nat.le_refl _)])
      clear hz hrng
      obtain ⟨y0, y1, y2, y3, y4, y5, y6, y7⟩ := blk8 kz
      obtain ⟨x0, x1, x2, x3, x4, x5, x6, x7⟩ := blk8 kr
      have z0 := kr.frozen 0; have z1 := kr.frozen 1; have z2 := kr.frozen 2; have z3 := kr.frozen 3; have z4 := kr.frozen 4; have z5 := kr.frozen 5; have z6 := kr.frozen 6; have z7 := kr.frozen 7
      have K9 := Lib.hid (show Blk _ w.heap.size 55 #[.int .i64 n0, .bool s, .int .i64 a0, .int .i64 a1, .string ⟨az.toArray⟩, .int .i64 b0, .int .i64 b1, .string ⟨bz.toArray⟩] by simpa using ((((((((kr.set_ 0 (.int .i64 n0)).set_ 1 (.bool s)).set_ 2 (.int .i64 a0)).set_ 3 (.int .i64 a1)).set_ 4 (.string ⟨az.toArray⟩)).set_ 5 (.int .i64 b0)).set_ 6 (.int .i64 b1)).set_ 7 (.string ⟨bz.toArray⟩)))
      have B9 := Lib.hid (((((((((hb.setCell (p := ⟨w.heap.size, 0, none⟩) (Nat.le_refl _) (.int .i64 n0)).setCell (p := ⟨w.heap.size, 1, none⟩) (Nat.le_refl _) (.bool s)).setCell (p := ⟨w.heap.size, 2, none⟩) (Nat.le_refl _) (.int .i64 a0)).setCell (p := ⟨w.heap.size, 3, none⟩) (Nat.le_refl _) (.int .i64 a1)).setCell (p := ⟨w.heap.size, 4, none⟩) (Nat.le_refl _) (.string ⟨az.toArray⟩)).setCell (p := ⟨w.heap.size, 5, none⟩) (Nat.le_refl _) (.int .i64 b0)).setCell (p := ⟨w.heap.size, 6, none⟩) (Nat.le_refl _) (.int .i64 b1)).setCell (p := ⟨w.heap.size, 7, none⟩) (Nat.le_refl _) (.string ⟨bz.toArray⟩)))
      clear kz kr hb HC
      go_wp2_with fail
      exact bodyPost_ret (v := .agg #[.int .i64 n0, .bool s, .int .i64 a0, .int .i64 a1, .string ⟨az.toArray⟩, .int .i64 b0, .int .i64 b1, .string ⟨bz.toArray⟩]) (results_cell_row rfl _ _ _ _ _ _ _ (by rfl) K9.out Tryz.underlying55 rfl (by kernel_rfl)) rfl ⟨by rw [HZ.out]; rfl, B9.out⟩
end Go.Proofs.YtpgdlmnhomnblaaGreatDoor
namespace Go.Proofs.YtpgdlmnhomnblaaGreatDoor
open Go.RowKit
set_option linter.unusedVariables false
set_option linter.unusedSimpArgs false
set_option maxRecDepth 100000
theorem own_of_blkS {w : World} {base g cap n : Nat} {t : TypeId} {cur : Array Value} {xs : List Value} (h : Blk w g t cur) (hb : base ≤ g) (hn : n ≤ cap) (hc : cap ≤ maxLen) (hs : cur.size = cap) (hx : cur.toList.take n = xs) : w.ownsRow base t 1 (.slice (some ⟨g, 0, none⟩) n cap) n xs := by
  refine ⟨by rw [← hx, List.length_take]; simp; omega, .inr ⟨g, cap, cur, rfl, hb, h, hn, hc, by omega, by simpa using hx⟩⟩
theorem run_make_cap (n c : Nat) (hn : n ≤ c) (hc : c ≤ 281474976710656) (w : World) :
    (Instr.makeSlice 66 (.int .u64 (n : Int)) (.int .i64 (c : Int))).run Tryz.prog w = .ok (.slice (some ⟨w.heap.size, 0, none⟩) n c) (w.alloc (.cells (madeCells #[.int .u8 0] c) 5)) := by
  obtain ⟨i, hi, hz0, hz1, hz2⟩ := info_parts info_u8
  have hr := run_make (P := Tryz.prog) w 66 5 i _ Tryz.underlying66 hi hz0 .u64 .i64 n c (by omega) (by omega) (by rw [hz2]; omega) (by omega)
  rw [hz1] at hr
  simpa [Value.cells] using hr
theorem fill_cells (z : Nat) (hz : z < 64) : (((madeCells #[.int .u8 0] 73).setIfInBounds 0 (.int .u8 128)).toList.take (1 + z)) = bs (128 :: List.replicate z 0) := by
  rw [Array.toList_setIfInBounds, toList_madeCells_one, List.take_set, List.take_replicate, show min (1 + z) 73 = z + 1 by omega, List.replicate_succ]
  simp [bs]
set_option maxHeartbeats 1000000 in
theorem filling_any (n : Nat) (w : World) (hn : n ≤ 1152921504606846976) :
    Calls Tryz.prog 95 #[.int .u64 (n : Int)] w (New w (bs (tailF n)) (9 + zsS n)) := by
  obtain ⟨i0, hi0, hz0, hz1, hz2⟩ := info_parts info_u8
  obtain ⟨z, hz⟩ : ∃ z, zsS n = z := ⟨_, rfl⟩
  obtain ⟨ov, hov⟩ : ∃ ov : Nat, (n + 9) % 64 = ov := ⟨_, rfl⟩
  have hov1 : ((n : Int) + 1 + 8) % 64 = (ov : Int) := by omega
  have hov2 : ((n : Int) + 9) % 64 = (ov : Int) := by omega
  have hov3 : ov < 64 := by omega
  have hz64 : z < 64 := by rw [← hz]; unfold zsS; omega
  have hzi : (64 - (ov : Int)) % 64 = (z : Int) := by rw [← hz]; unfold zsS; omega
  obtain ⟨m, hm⟩ : ∃ m : Nat, 1 + z = m := ⟨_, rfl⟩
  have hmi : 1 + (z : Int) = (m : Int) := by omega
  have hm0 : (0 : Int) < (m : Int) := by omega
  have hmk := run_make_cap m 73 (by omega) (by omega) w
  rw [show ((73 : Nat) : Int) = 73 from rfl] at hmk
  have hB := Blk.new w 5 (madeCells #[.int .u8 0] 73)
  have hc := hB.cell 0
  rw [show (madeCells #[.int .u8 0] 73)[0]? = some (.int .u8 0) by rw [← Array.getElem?_toList, toList_madeCells_one]; rfl] at hc
  have hfz := hB.frozen 0
  have hown : ((w.alloc (.cells (madeCells #[.int .u8 0] 73) 5)).setCell ⟨w.heap.size, 0, none⟩ (.int .u8 128)).ownsRow w.heap.size 5 1 (.slice (some ⟨w.heap.size, 0, none⟩) m 73) m (bs (128 :: List.replicate z 0)) :=
    own_of_blkS (hB.set_ 0 (.int .u8 128)) (Nat.le_refl _) (by omega) (by unfold maxLen; omega) (by rw [Array.size_setIfInBounds, size_madeCells]) (by rw [← hm]; exact fill_cells z hz64)
  have hb : Below w.heap.size w ((w.alloc (.cells (madeCells #[.int .u8 0] 73) 5)).setCell ⟨w.heap.size, 0, none⟩ (.int .u8 128)) := ((Below.refl _ _).alloc (Nat.le_refl _) _).setCell (Nat.le_refl _) _
  obtain ⟨w1, hw1⟩ : ∃ w1 : World, w1 = w.alloc (.cells (madeCells #[.int .u8 0] 73) 5) := ⟨_, rfl⟩
  rw [← hw1] at hmk hc hfz hown hb
  have HO := Lib.hid hown; have HB := Lib.hid hb; have HZ := Lib.hid hz; have HM := Lib.hid hm
  clear hown hb hz hm hov hw1 hB
  obtain ⟨cc, hcc⟩ : ∃ c : Nat, n * 8 = c := ⟨_, rfl⟩
  have hcci : (n : Int) * 8 = (cc : Int) := by omega
  have hccl : cc < 18446744073709551616 := by omega
  have HC := Lib.hid hcc; clear hcc
  go_enter Tryz.func95, Tryz.ntmps95
  go_wp2_with fail
  obtain ⟨w2, hw2⟩ : ∃ w2 : World, w2 = w1.setCell ⟨w.heap.size, 0, none⟩ (.int .u8 128) := ⟨_, rfl⟩
  rw [← hw2] at HO HB ⊢
  clear hw2 hmk hc hfz hov1 hov2 hov3 hzi hmi hm0 hcci
  generalize (64 - (ov : Int)) % 64 = q13
  generalize ((n : Int) + 1 + 8) % 64 = q10
  generalize 64 - (ov : Int) = q12
  go_loopg [4, 6] 8 (fun g s4 s6 wr => ∃ j : Nat, j + g = 8 ∧ s6 = .int .i64 (56 - 8 * (j : Int)) ∧ Hid (wr.ownsRow w.heap.size 5 1 s4 (m + j) (bs (128 :: List.replicate z 0 ++ (be8 cc).take j))) ∧ Hid (Below w.heap.size w wr))
  case atStart => exact ⟨0, by omega, rfl, Lib.hid (by simpa using HO.out), HB⟩
  case round =>
    clear HO HB
    obtain ⟨j, hjg, rfl, hown, hb⟩ := hrel
    obtain ⟨Av, cv, rfl, _⟩ := own_slice hown.out
    have hm73 : m + 8 ≤ 72 := by have := HM.out; omega
    cases gk with
    | zero =>
      obtain rfl : j = 8 := by omega
      clear hjg
      go_wp2_with fail
      go_ret
      have ho := hown.out
      rw [List.take_of_length_le (show (be8 cc).length ≤ 8 from Nat.le_refl _), ← HC.out, ← HZ.out, show m + 8 = 9 + zsS n by rw [HZ.out, ← HM.out]; omega] at ho
      exact ⟨_, by first | rfl | exact ret_of (by rw [show m + 8 = 9 + zsS n by rw [HZ.out, ← HM.out]; omega]), by first | exact ho | (rw [show m + 8 = 9 + zsS n by rw [HZ.out, ← HM.out]; omega]; exact ho), hb.out⟩
    | succ g =>
      have hj : j = 0 ∨ j = 1 ∨ j = 2 ∨ j = 3 ∨ j = 4 ∨ j = 5 ∨ j = 6 ∨ j = 7 := by omega
      rcases hj with rfl | rfl | rfl | rfl | rfl | rfl | rfl | rfl
      · have hv : (cc : Int) / 72057594037927936 = ((cc / 72057594037927936 % 256 : Nat) : Int) := by omega
        obtain ⟨y, hy⟩ : ∃ y : Nat, cc / 72057594037927936 % 256 = y := ⟨_, rfl⟩
        rw [hy] at hv
        have HY := Lib.hid hy
        clear hy
        have HO1 := Lib.hid (hown.out.alloc (.cells #[.int .u8 (y : Int)] 5))
        have HSZ2 := Lib.hid (show w.heap.size ≤ (wr.alloc (.cells #[.int .u8 (y : Int)] 5)).heap.size by have := hb.out.size; simp; omega)
        go_wp2_with (at_builtin
                     refine wpList_append_any _ rfl (.tmp 24) (.tmp 29) _ rfl w.heap.size 5 i0 _ 1 1 Tryz.underlying66 hi0 hz0 hz1 hz2 rfl (by omega) (.slice Av m cv) m _ rfl
                       HO1.out (wr.heap.size + 1) (some ⟨wr.heap.size, 0, none⟩) 1 1 [.int .u8 (y : Int)] rfl (Reads.new wr _ _) (one_int _ _) (by unfold maxLen; omega) (by omega) HSZ2.out ?_
                     intro v3 w3 hown3 hg3 hat3)
        go_roundg g
        case measure => omega
        case rel =>
          refine ⟨1, by omega, by go_num, Lib.hid ?_, Lib.hid (((hb.out.alloc hb.out.size _).grown hg3 (HSZ2.out) (fun k hk => (HO1.out.lt k hk).1)))⟩
          have e : 128 :: List.replicate z 0 ++ (be8 cc).take 1 = 128 :: List.replicate z 0 ++ (be8 cc).take 0 ++ [y] := by
            rw [← HY.out]; simp [be8]
          rw [e, bs_append]
          exact hown3
      · have hv : (cc : Int) / 281474976710656 % 256 = ((cc / 281474976710656 % 256 : Nat) : Int) := by omega
        obtain ⟨y, hy⟩ : ∃ y : Nat, cc / 281474976710656 % 256 = y := ⟨_, rfl⟩
        rw [hy] at hv
        have HY := Lib.hid hy
        clear hy
        have HO1 := Lib.hid (hown.out.alloc (.cells #[.int .u8 (y : Int)] 5))
        have HSZ2 := Lib.hid (show w.heap.size ≤ (wr.alloc (.cells #[.int .u8 (y : Int)] 5)).heap.size by have := hb.out.size; simp; omega)
        go_wp2_with (at_builtin
                     refine wpList_append_any _ rfl (.tmp 24) (.tmp 29) _ rfl w.heap.size 5 i0 _ 1 1 Tryz.underlying66 hi0 hz0 hz1 hz2 rfl (by omega) (.slice Av (m + 1) cv) (m + 1) _ rfl
                       HO1.out (wr.heap.size + 1) (some ⟨wr.heap.size, 0, none⟩) 1 1 [.int .u8 (y : Int)] rfl (Reads.new wr _ _) (one_int _ _) (by unfold maxLen; omega) (by omega) HSZ2.out ?_
                     intro v3 w3 hown3 hg3 hat3)
        go_roundg g
        case measure => omega
        case rel =>
          refine ⟨2, by omega, by go_num, Lib.hid ?_, Lib.hid (((hb.out.alloc hb.out.size _).grown hg3 (HSZ2.out) (fun k hk => (HO1.out.lt k hk).1)))⟩
          have e : 128 :: List.replicate z 0 ++ (be8 cc).take 2 = 128 :: List.replicate z 0 ++ (be8 cc).take 1 ++ [y] := by
            rw [← HY.out]; simp [be8]
          rw [e, bs_append]
          exact hown3
      · have hv : (cc : Int) / 1099511627776 % 256 = ((cc / 1099511627776 % 256 : Nat) : Int) := by omega
        obtain ⟨y, hy⟩ : ∃ y : Nat, cc / 1099511627776 % 256 = y := ⟨_, rfl⟩
        rw [hy] at hv
        have HY := Lib.hid hy
        clear hy
        have HO1 := Lib.hid (hown.out.alloc (.cells #[.int .u8 (y : Int)] 5))
        have HSZ2 := Lib.hid (show w.heap.size ≤ (wr.alloc (.cells #[.int .u8 (y : Int)] 5)).heap.size by have := hb.out.size; simp; omega)
        go_wp2_with (at_builtin
                     refine wpList_append_any _ rfl (.tmp 24) (.tmp 29) _ rfl w.heap.size 5 i0 _ 1 1 Tryz.underlying66 hi0 hz0 hz1 hz2 rfl (by omega) (.slice Av (m + 2) cv) (m + 2) _ rfl
                       HO1.out (wr.heap.size + 1) (some ⟨wr.heap.size, 0, none⟩) 1 1 [.int .u8 (y : Int)] rfl (Reads.new wr _ _) (one_int _ _) (by unfold maxLen; omega) (by omega) HSZ2.out ?_
                     intro v3 w3 hown3 hg3 hat3)
        go_roundg g
        case measure => omega
        case rel =>
          refine ⟨3, by omega, by go_num, Lib.hid ?_, Lib.hid (((hb.out.alloc hb.out.size _).grown hg3 (HSZ2.out) (fun k hk => (HO1.out.lt k hk).1)))⟩
          have e : 128 :: List.replicate z 0 ++ (be8 cc).take 3 = 128 :: List.replicate z 0 ++ (be8 cc).take 2 ++ [y] := by
            rw [← HY.out]; simp [be8]
          rw [e, bs_append]
          exact hown3
      · have hv : (cc : Int) / 4294967296 % 256 = ((cc / 4294967296 % 256 : Nat) : Int) := by omega
        obtain ⟨y, hy⟩ : ∃ y : Nat, cc / 4294967296 % 256 = y := ⟨_, rfl⟩
        rw [hy] at hv
        have HY := Lib.hid hy
        clear hy
        have HO1 := Lib.hid (hown.out.alloc (.cells #[.int .u8 (y : Int)] 5))
        have HSZ2 := Lib.hid (show w.heap.size ≤ (wr.alloc (.cells #[.int .u8 (y : Int)] 5)).heap.size by have := hb.out.size; simp; omega)
        go_wp2_with (at_builtin
                     refine wpList_append_any _ rfl (.tmp 24) (.tmp 29) _ rfl w.heap.size 5 i0 _ 1 1 Tryz.underlying66 hi0 hz0 hz1 hz2 rfl (by omega) (.slice Av (m + 3) cv) (m + 3) _ rfl
                       HO1.out (wr.heap.size + 1) (some ⟨wr.heap.size, 0, none⟩) 1 1 [.int .u8 (y : Int)] rfl (Reads.new wr _ _) (one_int _ _) (by unfold maxLen; omega) (by omega) HSZ2.out ?_
                     intro v3 w3 hown3 hg3 hat3)
        go_roundg g
        case measure => omega
        case rel =>
          refine ⟨4, by omega, by go_num, Lib.hid ?_, Lib.hid (((hb.out.alloc hb.out.size _).grown hg3 (HSZ2.out) (fun k hk => (HO1.out.lt k hk).1)))⟩
          have e : 128 :: List.replicate z 0 ++ (be8 cc).take 4 = 128 :: List.replicate z 0 ++ (be8 cc).take 3 ++ [y] := by
            rw [← HY.out]; simp [be8]
          rw [e, bs_append]
          exact hown3
      · have hv : (cc : Int) / 16777216 % 256 = ((cc / 16777216 % 256 : Nat) : Int) := by omega
        obtain ⟨y, hy⟩ : ∃ y : Nat, cc / 16777216 % 256 = y := ⟨_, rfl⟩
        rw [hy] at hv
        have HY := Lib.hid hy
        clear hy
        have HO1 := Lib.hid (hown.out.alloc (.cells #[.int .u8 (y : Int)] 5))
        have HSZ2 := Lib.hid (show w.heap.size ≤ (wr.alloc (.cells #[.int .u8 (y : Int)] 5)).heap.size by have := hb.out.size; simp; omega)
        go_wp2_with (at_builtin
                     refine wpList_append_any _ rfl (.tmp 24) (.tmp 29) _ rfl w.heap.size 5 i0 _ 1 1 Tryz.underlying66 hi0 hz0 hz1 hz2 rfl (by omega) (.slice Av (m + 4) cv) (m + 4) _ rfl
                       HO1.out (wr.heap.size + 1) (some ⟨wr.heap.size, 0, none⟩) 1 1 [.int .u8 (y : Int)] rfl (Reads.new wr _ _) (one_int _ _) (by unfold maxLen; omega) (by omega) HSZ2.out ?_
                     intro v3 w3 hown3 hg3 hat3)
        go_roundg g
        case measure => omega
        case rel =>
          refine ⟨5, by omega, by go_num, Lib.hid ?_, Lib.hid (((hb.out.alloc hb.out.size _).grown hg3 (HSZ2.out) (fun k hk => (HO1.out.lt k hk).1)))⟩
          have e : 128 :: List.replicate z 0 ++ (be8 cc).take 5 = 128 :: List.replicate z 0 ++ (be8 cc).take 4 ++ [y] := by
            rw [← HY.out]; simp [be8]
          rw [e, bs_append]
          exact hown3
      · have hv : (cc : Int) / 65536 % 256 = ((cc / 65536 % 256 : Nat) : Int) := by omega
        obtain ⟨y, hy⟩ : ∃ y : Nat, cc / 65536 % 256 = y := ⟨_, rfl⟩
        rw [hy] at hv
        have HY := Lib.hid hy
        clear hy
        have HO1 := Lib.hid (hown.out.alloc (.cells #[.int .u8 (y : Int)] 5))
        have HSZ2 := Lib.hid (show w.heap.size ≤ (wr.alloc (.cells #[.int .u8 (y : Int)] 5)).heap.size by have := hb.out.size; simp; omega)
        go_wp2_with (at_builtin
                     refine wpList_append_any _ rfl (.tmp 24) (.tmp 29) _ rfl w.heap.size 5 i0 _ 1 1 Tryz.underlying66 hi0 hz0 hz1 hz2 rfl (by omega) (.slice Av (m + 5) cv) (m + 5) _ rfl
                       HO1.out (wr.heap.size + 1) (some ⟨wr.heap.size, 0, none⟩) 1 1 [.int .u8 (y : Int)] rfl (Reads.new wr _ _) (one_int _ _) (by unfold maxLen; omega) (by omega) HSZ2.out ?_
                     intro v3 w3 hown3 hg3 hat3)
        go_roundg g
        case measure => omega
        case rel =>
          refine ⟨6, by omega, by go_num, Lib.hid ?_, Lib.hid (((hb.out.alloc hb.out.size _).grown hg3 (HSZ2.out) (fun k hk => (HO1.out.lt k hk).1)))⟩
          have e : 128 :: List.replicate z 0 ++ (be8 cc).take 6 = 128 :: List.replicate z 0 ++ (be8 cc).take 5 ++ [y] := by
            rw [← HY.out]; simp [be8]
          rw [e, bs_append]
          exact hown3
      · have hv : (cc : Int) / 256 % 256 = ((cc / 256 % 256 : Nat) : Int) := by omega
        obtain ⟨y, hy⟩ : ∃ y : Nat, cc / 256 % 256 = y := ⟨_, rfl⟩
        rw [hy] at hv
        have HY := Lib.hid hy
        clear hy
        have HO1 := Lib.hid (hown.out.alloc (.cells #[.int .u8 (y : Int)] 5))
        have HSZ2 := Lib.hid (show w.heap.size ≤ (wr.alloc (.cells #[.int .u8 (y : Int)] 5)).heap.size by have := hb.out.size; simp; omega)
        go_wp2_with (at_builtin
                     refine wpList_append_any _ rfl (.tmp 24) (.tmp 29) _ rfl w.heap.size 5 i0 _ 1 1 Tryz.underlying66 hi0 hz0 hz1 hz2 rfl (by omega) (.slice Av (m + 6) cv) (m + 6) _ rfl
                       HO1.out (wr.heap.size + 1) (some ⟨wr.heap.size, 0, none⟩) 1 1 [.int .u8 (y : Int)] rfl (Reads.new wr _ _) (one_int _ _) (by unfold maxLen; omega) (by omega) HSZ2.out ?_
                     intro v3 w3 hown3 hg3 hat3)
        go_roundg g
        case measure => omega
        case rel =>
          refine ⟨7, by omega, by go_num, Lib.hid ?_, Lib.hid (((hb.out.alloc hb.out.size _).grown hg3 (HSZ2.out) (fun k hk => (HO1.out.lt k hk).1)))⟩
          have e : 128 :: List.replicate z 0 ++ (be8 cc).take 7 = 128 :: List.replicate z 0 ++ (be8 cc).take 6 ++ [y] := by
            rw [← HY.out]; simp [be8]
          rw [e, bs_append]
          exact hown3
      · have hv : (cc : Int) % 256 = ((cc % 256 : Nat) : Int) := by omega
        obtain ⟨y, hy⟩ : ∃ y : Nat, cc % 256 = y := ⟨_, rfl⟩
        rw [hy] at hv
        have HY := Lib.hid hy
        clear hy
        have HO1 := Lib.hid (hown.out.alloc (.cells #[.int .u8 (y : Int)] 5))
        have HSZ2 := Lib.hid (show w.heap.size ≤ (wr.alloc (.cells #[.int .u8 (y : Int)] 5)).heap.size by have := hb.out.size; simp; omega)
        go_wp2_with (at_builtin
                     refine wpList_append_any _ rfl (.tmp 24) (.tmp 29) _ rfl w.heap.size 5 i0 _ 1 1 Tryz.underlying66 hi0 hz0 hz1 hz2 rfl (by omega) (.slice Av (m + 7) cv) (m + 7) _ rfl
                       HO1.out (wr.heap.size + 1) (some ⟨wr.heap.size, 0, none⟩) 1 1 [.int .u8 (y : Int)] rfl (Reads.new wr _ _) (one_int _ _) (by unfold maxLen; omega) (by omega) HSZ2.out ?_
                     intro v3 w3 hown3 hg3 hat3)
        go_roundg g
        case measure => omega
        case rel =>
          refine ⟨8, by omega, by go_num, Lib.hid ?_, Lib.hid (((hb.out.alloc hb.out.size _).grown hg3 (HSZ2.out) (fun k hk => (HO1.out.lt k hk).1)))⟩
          have e : 128 :: List.replicate z 0 ++ (be8 cc).take 8 = 128 :: List.replicate z 0 ++ (be8 cc).take 7 ++ [y] := by
            rw [← HY.out]; simp [be8]
          rw [e, bs_append]
          exact hown3
end Go.Proofs.YtpgdlmnhomnblaaGreatDoor
