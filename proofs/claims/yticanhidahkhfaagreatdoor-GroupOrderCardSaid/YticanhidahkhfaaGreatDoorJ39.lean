import Derived.Test.YticanhidahkhfaaGreatDoorJ38
import Derived.Test.YticanhidahkhfaaGreatDoorJ1
import Derived.Deep.RegionLaw
import Derived.Test.YticanhidahkhfaaGreatDoorJ35
namespace Go.Proofs.YticanhidahkhfaaGreatDoor
open Go.RowKit
set_option linter.unusedVariables false
set_option linter.unusedSimpArgs false
set_option maxRecDepth 100000
attribute [local go_sem] binOp_gtr_tx
def cmpI (x y : Int) : Int := if x < y then -1 else if y < x then 1 else 0
def cmpT (x y : Tx) : Int := if tlt x y then -1 else if tlt y x then 1 else 0
theorem cmpV_is (a b : Vl) : cmpV a b = if a.1 = b.1 then (if a.1 = 1 then cmpI a.2.1 b.2.1 else if a.1 = 2 then cmpT a.2.2 b.2.2 else 0) else cmpI a.1 b.1 := by
  unfold cmpI cmpT
  rcases cmp_cases a b with ⟨h, e⟩ | ⟨h, e⟩ | ⟨h0, ⟨k, ⟨h, e⟩ | ⟨h, e⟩ | ⟨h, e⟩⟩ | ⟨k, ⟨h, e⟩ | ⟨h, e⟩ | ⟨h, e⟩⟩ | ⟨k1, k2, e⟩⟩
  · rw [e, if_neg (by omega), if_pos h]
  · rw [e, if_neg (by omega), if_neg (by omega), if_pos h]
  · rw [e, if_pos h0, if_pos k, if_pos h]
  · rw [e, if_pos h0, if_pos k, if_neg (by omega), if_pos h]
  · rw [e, if_pos h0, if_pos k, if_neg (by omega), if_neg (by omega)]
  · rw [e, if_pos h0, if_neg (by omega), if_pos k, if_pos h]
  · rw [e, if_pos h0, if_neg (by omega), if_pos k, if_neg (tlt_asymm h), if_pos h]
  · rw [e, if_pos h0, if_neg (by omega), if_pos k, h, if_neg (tlt_irrefl _), if_neg (tlt_irrefl _)]
  · rw [e, if_pos h0, if_neg k1, if_neg k2]
theorem isNaN_int (x : Int) (w : World) : Calls Tryz.prog 237 #[.int .i64 x] w fun e w' => e = .returned (.bool false) ∧ w = w' := by
  go_enter Tryz.func237, Tryz.ntmps237
  go_wp2_with fail
  go_ret
  exact ⟨by first | rfl | simp, rfl⟩
theorem isNaN_int64 (x : Int) (w : World) : Calls Tryz.prog 238 #[.int .i64 x] w fun e w' => e = .returned (.bool false) ∧ w = w' := by
  go_enter Tryz.func238, Tryz.ntmps238
  go_wp2_with fail
  go_ret
  exact ⟨by first | rfl | simp, rfl⟩
theorem isNaN_tx (x : Tx) (w : World) : Calls Tryz.prog 239 #[.string ⟨x.toArray⟩] w fun e w' => e = .returned (.bool false) ∧ w = w' := by
  go_enter Tryz.func239, Tryz.ntmps239
  go_wp2_with fail
  go_ret
  exact ⟨by first | rfl | simp, rfl⟩
theorem compare_int (x y : Int) (w : World) : Calls Tryz.prog 169 #[.int .i64 x, .int .i64 y] w fun e w' => e = .returned (.int .i64 (cmpI x y)) ∧ w = w' := by
  obtain ⟨r, hr⟩ : ∃ r, cmpI x y = r := ⟨_, rfl⟩
  rw [hr]
  unfold cmpI at hr
  have H1 := Lib.hid (isNaN_int x); have H2 := Lib.hid (isNaN_int y)
  go_enter Tryz.func169, Tryz.ntmps169
  go_wp2_with fail
  refine (H1.out _).mono ?_
  rintro e w' ⟨rfl, rfl⟩
  go_wp2_with fail
  refine (H2.out _).mono ?_
  rintro e w' ⟨rfl, rfl⟩
  by_cases h1 : x < y
  · rw [if_pos h1] at hr
    subst hr
    go_wp2_with fail
    go_ret
    exact ⟨rfl, rfl⟩
  · rw [if_neg h1] at hr
    by_cases h2 : y < x
    · rw [if_pos h2] at hr
      subst hr
      go_wp2_with fail
      go_ret
      exact ⟨rfl, rfl⟩
    · rw [if_neg h2] at hr
      subst hr
      go_wp2_with fail
      go_ret
      exact ⟨rfl, rfl⟩
theorem compare_int64 (x y : Int) (w : World) : Calls Tryz.prog 170 #[.int .i64 x, .int .i64 y] w fun e w' => e = .returned (.int .i64 (cmpI x y)) ∧ w = w' := by
  obtain ⟨r, hr⟩ : ∃ r, cmpI x y = r := ⟨_, rfl⟩
  rw [hr]
  unfold cmpI at hr
  have H1 := Lib.hid (isNaN_int64 x); have H2 := Lib.hid (isNaN_int64 y)
  go_enter Tryz.func170, Tryz.ntmps170
  go_wp2_with fail
  refine (H1.out _).mono ?_
  rintro e w' ⟨rfl, rfl⟩
  go_wp2_with fail
  refine (H2.out _).mono ?_
  rintro e w' ⟨rfl, rfl⟩
  by_cases h1 : x < y
  · rw [if_pos h1] at hr
    subst hr
    go_wp2_with fail
    go_ret
    exact ⟨rfl, rfl⟩
  · rw [if_neg h1] at hr
    by_cases h2 : y < x
    · rw [if_pos h2] at hr
      subst hr
      go_wp2_with fail
      go_ret
      exact ⟨rfl, rfl⟩
    · rw [if_neg h2] at hr
      subst hr
      go_wp2_with fail
      go_ret
      exact ⟨rfl, rfl⟩
theorem compare_tx (x y : Tx) (w : World) : Calls Tryz.prog 171 #[.string ⟨x.toArray⟩, .string ⟨y.toArray⟩] w fun e w' => e = .returned (.int .i64 (cmpT x y)) ∧ w = w' := by
  obtain ⟨r, hr⟩ : ∃ r, cmpT x y = r := ⟨_, rfl⟩
  rw [hr]
  unfold cmpT at hr
  have H1 := Lib.hid (isNaN_tx x); have H2 := Lib.hid (isNaN_tx y)
  go_enter Tryz.func171, Tryz.ntmps171
  go_wp2_with fail
  refine (H1.out _).mono ?_
  rintro e w' ⟨rfl, rfl⟩
  go_wp2_with fail
  refine (H2.out _).mono ?_
  rintro e w' ⟨rfl, rfl⟩
  by_cases h1 : tlt x y
  · rw [if_pos h1] at hr
    subst hr
    have l1 := less_of h1
    have g1 : decide (tlt x y) = true := by simp [h1]
    clear h1
    go_wp2_with fail
    go_ret
    exact ⟨rfl, rfl⟩
  · rw [if_neg h1] at hr
    have l1 := less_not h1
    have g1 : decide (tlt x y) = false := by simp [h1]
    by_cases h2 : tlt y x
    · rw [if_pos h2] at hr
      subst hr
      have g2 : decide (tlt y x) = true := by simp [h2]
      clear h1 h2
      go_wp2_with fail
      go_ret
      exact ⟨rfl, rfl⟩
    · rw [if_neg h2] at hr
      subst hr
      have g2 : decide (tlt y x) = false := by simp [h2]
      clear h1 h2
      go_wp2_with fail
      go_ret
      exact ⟨rfl, rfl⟩
set_option maxHeartbeats 1000000 in
theorem cmpC_any : CmpC := by
  intro a b w
  have hR := cmpV_is a b
  obtain ⟨r, hr⟩ : ∃ r, cmpV a b = r := ⟨_, rfl⟩
  rw [hr] at hR ⊢
  obtain ⟨a0, a1, za⟩ := a
  obtain ⟨b0, b1, zb⟩ := b
  simp only at hR
  clear hr
  unfold vW
  simp only
  have hB : Below w.heap.size w ((w.alloc (.cells #[.int .i64 a0, .int .i64 a1, .string ⟨za.toArray⟩] 50)).alloc (.cells #[.int .i64 b0, .int .i64 b1, .string ⟨zb.toArray⟩] 50)) :=
    ((Below.refl _ _).alloc (Nat.le_refl _) _).alloc (by simp) _
  by_cases h0 : a0 = b0
  · subst h0
    rw [if_pos rfl] at hR
    by_cases k1 : a0 = 1
    · subst k1
      rw [if_pos rfl] at hR
      subst hR
      have H := Lib.hid (compare_int64 a1 b1)
      go_enter Tryz.func96, Tryz.ntmps96
      go_wp2_with fail
      refine (H.out _).mono ?_
      rintro e w' ⟨rfl, rfl⟩
      go_wp2_with fail
      go_ret
      exact ⟨rfl, hB⟩
    · by_cases k2 : a0 = 2
      · subst k2
        rw [if_neg (by decide), if_pos rfl] at hR
        subst hR
        have H := Lib.hid (compare_tx za zb)
        go_enter Tryz.func96, Tryz.ntmps96
        go_wp2_with fail
        refine (H.out _).mono ?_
        rintro e w' ⟨rfl, rfl⟩
        go_wp2_with fail
        go_ret
        exact ⟨rfl, hB⟩
      · rw [if_neg k1, if_neg k2] at hR
        subst hR
        have q1 : (a0 == 1) = false := by simp [k1]
        have q2 : (a0 == 2) = false := by simp [k2]
        clear k1 k2
        go_enter Tryz.func96, Tryz.ntmps96
        go_wp2_with fail
        go_ret
        exact ⟨rfl, hB⟩
  · rw [if_neg h0] at hR
    subst hR
    have q1 : (a0 != b0) = true := by simp [h0]
    have H := Lib.hid (compare_int a0 b0)
    clear h0
    go_enter Tryz.func96, Tryz.ntmps96
    go_wp2_with fail
    refine (H.out _).mono ?_
    rintro e w' ⟨rfl, rfl⟩
    go_wp2_with fail
    go_ret
    exact ⟨rfl, hB⟩
end Go.Proofs.YticanhidahkhfaaGreatDoor
namespace Go.Proofs.YticanhidahkhfaaGreatDoor
open Go.RowKit
set_option linter.unusedVariables false
set_option linter.unusedSimpArgs false
set_option maxRecDepth 100000
def zA (z : Zn) : Array Value := #[.int .i64 z.1, .bool z.2.1, .int .i64 z.2.2.1.1, .int .i64 z.2.2.1.2.1, .string ⟨z.2.2.1.2.2.toArray⟩, .int .i64 z.2.2.2.1, .int .i64 z.2.2.2.2.1, .string ⟨z.2.2.2.2.2.toArray⟩]
theorem zoV_snoc {l : List Vl} {k : Nat} {v : Vl} (h : l[k]? = some v) : zoV (l.take (k + 1)) = addZ (zoV (l.take k)) v := by
  rw [List.take_add_one, h]
  simp [zoV, List.foldl_append]
theorem addZ_0 {z : Zn} {v : Vl} (h : v.1 = 0) : addZ z v = (z.1 + 1, z.2) := by unfold addZ; rw [if_pos h]
theorem addZ_1 {z : Zn} {v : Vl} (h : v.1 ≠ 0) (hs : z.2.1 = false) : addZ z v = (z.1, true, v, v) := by unfold addZ; rw [if_neg h, if_pos hs]
theorem addZ_2 {z : Zn} {v : Vl} (h : v.1 ≠ 0) (hs : z.2.1 = true) (hc : cmpV v z.2.2.1 < 0) : addZ z v = (z.1, true, v, z.2.2.2) := by unfold addZ; rw [if_neg h, if_neg (by simp [hs]), if_pos hc]
theorem addZ_3 {z : Zn} {v : Vl} (h : v.1 ≠ 0) (hs : z.2.1 = true) (hc : ¬ cmpV v z.2.2.1 < 0) (hd : 0 < cmpV v z.2.2.2) : addZ z v = (z.1, true, z.2.2.1, v) := by unfold addZ; rw [if_neg h, if_neg (by simp [hs]), if_neg hc, if_pos hd]
theorem addZ_4 {z : Zn} {v : Vl} (h : v.1 ≠ 0) (hs : z.2.1 = true) (hc : ¬ cmpV v z.2.2.1 < 0) (hd : ¬ 0 < cmpV v z.2.2.2) : addZ z v = z := by unfold addZ; rw [if_neg h, if_neg (by simp [hs]), if_neg hc, if_neg hd]
set_option maxHeartbeats 4000000 in
theorem zoneOf_any {w : World} {A : Option Addr} {n c : Nat} {vl : List Vl} (hr : Reads w w.heap.size 3 A n (vs vl)) (hn : n ≤ 140737488355328) :
    Calls Tryz.prog 40 #[.slice A n c] w fun e w' => e = .returned (zW (zoV vl)) ∧ Below w.heap.size w w' := by
  have e2 : vl.length = n := by have := hr.1; rw [vs_length] at this; omega
  have HE2 := Lib.hid e2
  have HC := Lib.hid (show CmpC from cmpC_any)
  have kz := Blk.new (w.alloc (.cells #[.int .i64 0, .bool false, .int .i64 0, .int .i64 0, .string ⟨#[]⟩, .int .i64 0, .int .i64 0, .string ⟨#[]⟩] 52)) 52 #[.int .i64 0, .bool false, .int .i64 0, .int .i64 0, .string ⟨#[]⟩, .int .i64 0, .int .i64 0, .string ⟨#[]⟩]
  have kr := (Blk.new w 52 #[.int .i64 0, .bool false, .int .i64 0, .int .i64 0, .string ⟨#[]⟩, .int .i64 0, .int .i64 0, .string ⟨#[]⟩]).alloc (.cells #[.int .i64 0, .bool false, .int .i64 0, .int .i64 0, .string ⟨#[]⟩, .int .i64 0, .int .i64 0, .string ⟨#[]⟩] 52)
  have hb := ((Below.refl w.heap.size w).alloc (Nat.le_refl _) (.cells #[.int .i64 0, .bool false, .int .i64 0, .int .i64 0, .string ⟨#[]⟩, .int .i64 0, .int .i64 0, .string ⟨#[]⟩] 52)).alloc (by simp) (.cells #[.int .i64 0, .bool false, .int .i64 0, .int .i64 0, .string ⟨#[]⟩, .int .i64 0, .int .i64 0, .string ⟨#[]⟩] 52)
  rw [World.size_alloc] at kz
  have HKZ := Lib.hid kz; have HKR := Lib.hid kr; have HB := Lib.hid hb
  clear kz kr hb e2
  go_enter Tryz.func40, Tryz.ntmps40
  go_wp2_with fail
  go_loopw [8] (fun i wr => ∃ k : Nat, k ≤ n ∧ i = .int .i64 (k : Int) ∧ Below w.heap.size w wr ∧ Blk wr w.heap.size 52 #[.int .i64 0, .bool false, .int .i64 0, .int .i64 0, .string ⟨#[]⟩, .int .i64 0, .int .i64 0, .string ⟨#[]⟩] ∧ ∃ zz, zoV (vl.take k) = zz ∧ Blk wr (w.heap.size + 1) 52 (zA zz)) (fun i _ => n - (intOf i).toNat)
  case atStart => exact ⟨0, Nat.zero_le _, rfl, HB.out, HKR.out, _, rfl, HKZ.out⟩
  case round =>
    clear HB HKZ HKR
    obtain ⟨k, hk, rfl, hb, kr, ⟨n0, s, ⟨a0, a1, az⟩, ⟨b0, b1, bz⟩⟩, hz, kz⟩ := hrel
    have hrng := (zoV_of (vl.take k)).range
    rw [hz] at hrng
    simp only [List.length_take] at hrng
    have kz : Blk wr (w.heap.size + 1) 52 #[.int .i64 n0, .bool s, .int .i64 a0, .int .i64 a1, .string ⟨az.toArray⟩, .int .i64 b0, .int .i64 b1, .string ⟨bz.toArray⟩] := kz
    by_cases hlt : k < n
    · obtain ⟨⟨v0, v1, z⟩, hv⟩ : ∃ v, vl[k]? = some v := ⟨_, List.getElem?_eq_getElem (by rw [HE2.out]; omega)⟩
      have hn1 : 0 ≤ n0 := hrng.1
      have hn2 : n0 + 1 ≤ 140737488355329 := by have := hrng.2; omega
      have HN : Hid (∀ {y : Zn}, addZ (n0, s, (a0, a1, az), (b0, b1, bz)) (v0, v1, z) = y → zoV (vl.take (k + 1)) = y) := Lib.hid fun h => by rw [zoV_snoc hv, hz]; exact h
      obtain ⟨b', o', rfl, hb0', e0, e1, e2⟩ := (hr.below hb).val hv
      clear hrng hz hv
      have kv := Blk.new wr 50 #[.int .i64 v0, .int .i64 v1, .string ⟨z.toArray⟩]
      have kz1 := kz.alloc (.cells #[.int .i64 v0, .int .i64 v1, .string ⟨z.toArray⟩] 50)
      have kr1 := kr.alloc (.cells #[.int .i64 v0, .int .i64 v1, .string ⟨z.toArray⟩] 50)
      have hb1 := hb.alloc hb.size (.cells #[.int .i64 v0, .int .i64 v1, .string ⟨z.toArray⟩] 50)
      have hne1 : ¬ (w.heap.size + 1 = wr.heap.size) := by have := kz.lt; omega
      have hne2 : ¬ (wr.heap.size = w.heap.size + 1) := by have := kz.lt; omega
      by_cases h0 : v0 = 0
      · subst h0
        have HN0 := Lib.hid (HN.out (addZ_0 rfl))
        clear HN HC
        obtain ⟨x0, x1, x2⟩ := blk3 kv
        obtain ⟨y0, y1, y2, y3, y4, y5, y6, y7⟩ := blk8 kz1
        have z0 := kz1.frozen 0
        have K9 := Lib.hid (show Blk _ (w.heap.size + 1) 52 #[.int .i64 (n0 + 1), .bool s, .int .i64 a0, .int .i64 a1, .string ⟨az.toArray⟩, .int .i64 b0, .int .i64 b1, .string ⟨bz.toArray⟩] by simpa using (kz1.set_ 0 (.int .i64 (n0 + 1))))
        have B9 := Lib.hid ((hb1.setCell (p := ⟨w.heap.size + 1, 0, none⟩) (by show w.heap.size ≤ w.heap.size + 1; omega) (.int .i64 (n0 + 1))))
        have R9 := Lib.hid ((kr1.far (p := ⟨w.heap.size + 1, 0, none⟩) (show w.heap.size ≠ w.heap.size + 1 by omega) (.int .i64 (n0 + 1))))
        clear kv kz kz1 kr kr1 hb hb1
        go_wp2_with fail
        go_round
        case rel => exact ⟨k + 1, by omega, rfl, B9.out, R9.out, _, HN0.out, K9.out⟩
        case measure => simp [intOf]; omega
      have q0 : (v0 == 0) = false := by simpa using h0
      have q1 : decide (v0 = 0) = false := by simpa using h0
      cases s with
      | false =>
        have HN0 := Lib.hid (HN.out (addZ_1 h0 rfl))
        clear HN HC
        obtain ⟨x0, x1, x2⟩ := blk3 kv
        obtain ⟨y0, y1, y2, y3, y4, y5, y6, y7⟩ := blk8 kz1
        have z1 := kz1.frozen 1; have z2 := kz1.frozen 2; have z3 := kz1.frozen 3; have z4 := kz1.frozen 4; have z5 := kz1.frozen 5; have z6 := kz1.frozen 6; have z7 := kz1.frozen 7
        have K9 := Lib.hid (show Blk _ (w.heap.size + 1) 52 #[.int .i64 n0, .bool true, .int .i64 v0, .int .i64 v1, .string ⟨z.toArray⟩, .int .i64 v0, .int .i64 v1, .string ⟨z.toArray⟩] by simpa using ((((((((kz1.set_ 1 (.bool true)).set_ 2 (.int .i64 v0)).set_ 3 (.int .i64 v1)).set_ 4 (.string ⟨z.toArray⟩)).set_ 5 (.int .i64 v0)).set_ 6 (.int .i64 v1)).set_ 7 (.string ⟨z.toArray⟩))).drew)
        have B9 := Lib.hid (below_drewR (((((((hb1.setCell (p := ⟨w.heap.size + 1, 1, none⟩) (by show w.heap.size ≤ w.heap.size + 1; omega) (.bool true)).setCell (p := ⟨w.heap.size + 1, 2, none⟩) (by show w.heap.size ≤ w.heap.size + 1; omega) (.int .i64 v0)).setCell (p := ⟨w.heap.size + 1, 3, none⟩) (by show w.heap.size ≤ w.heap.size + 1; omega) (.int .i64 v1)).setCell (p := ⟨w.heap.size + 1, 4, none⟩) (by show w.heap.size ≤ w.heap.size + 1; omega) (.string ⟨z.toArray⟩)).setCell (p := ⟨w.heap.size + 1, 5, none⟩) (by show w.heap.size ≤ w.heap.size + 1; omega) (.int .i64 v0)).setCell (p := ⟨w.heap.size + 1, 6, none⟩) (by show w.heap.size ≤ w.heap.size + 1; omega) (.int .i64 v1)).setCell (p := ⟨w.heap.size + 1, 7, none⟩) (by show w.heap.size ≤ w.heap.size + 1; omega) (.string ⟨z.toArray⟩)))
        have R9 := Lib.hid (((((((((kr1.far (p := ⟨w.heap.size + 1, 1, none⟩) (show w.heap.size ≠ w.heap.size + 1 by omega) (.bool true)).far (p := ⟨w.heap.size + 1, 2, none⟩) (show w.heap.size ≠ w.heap.size + 1 by omega) (.int .i64 v0)).far (p := ⟨w.heap.size + 1, 3, none⟩) (show w.heap.size ≠ w.heap.size + 1 by omega) (.int .i64 v1)).far (p := ⟨w.heap.size + 1, 4, none⟩) (show w.heap.size ≠ w.heap.size + 1 by omega) (.string ⟨z.toArray⟩)).far (p := ⟨w.heap.size + 1, 5, none⟩) (show w.heap.size ≠ w.heap.size + 1 by omega) (.int .i64 v0)).far (p := ⟨w.heap.size + 1, 6, none⟩) (show w.heap.size ≠ w.heap.size + 1 by omega) (.int .i64 v1)).far (p := ⟨w.heap.size + 1, 7, none⟩) (show w.heap.size ≠ w.heap.size + 1 by omega) (.string ⟨z.toArray⟩))).drew)
        clear kv kz kz1 kr kr1 hb hb1
        go_wp2_with fail
        go_region
        go_wp2_with fail
        go_round
        case rel => exact ⟨k + 1, by omega, rfl, B9.out, R9.out, _, HN0.out, K9.out⟩
        case measure => simp [intOf]; omega
      | true =>
        have hc2 := HC.out (v0, v1, z) (a0, a1, az)
        have hc3 := HC.out (v0, v1, z) (b0, b1, bz)
        obtain ⟨d, hd⟩ : ∃ d, cmpV (v0, v1, z) (a0, a1, az) = d := ⟨_, rfl⟩
        obtain ⟨d', hd'⟩ : ∃ d, cmpV (v0, v1, z) (b0, b1, bz) = d := ⟨_, rfl⟩
        rw [hd] at hc2
        rw [hd'] at hc3
        have HC2 := Lib.hid hc2; have HC3 := Lib.hid hc3
        have N2 := Lib.hid (fun h => HN.out (addZ_2 h0 rfl (by show cmpV (v0, v1, z) (a0, a1, az) < 0; rw [hd]; exact h)) : d < 0 → _)
        have N3 := Lib.hid (fun h k => HN.out (addZ_3 h0 rfl (by show ¬ cmpV (v0, v1, z) (a0, a1, az) < 0; rw [hd]; exact h) (by show 0 < cmpV (v0, v1, z) (b0, b1, bz); rw [hd']; exact k)) : ¬ d < 0 → 0 < d' → _)
        have N4 := Lib.hid (fun h k => HN.out (addZ_4 h0 rfl (by show ¬ cmpV (v0, v1, z) (a0, a1, az) < 0; rw [hd]; exact h) (by show ¬ 0 < cmpV (v0, v1, z) (b0, b1, bz); rw [hd']; exact k)) : ¬ d < 0 → ¬ 0 < d' → _)
        clear hc2 hc3 HC HN hd hd'
        obtain ⟨x0, x1, x2⟩ := blk3 kv
        obtain ⟨y0, y1, y2, y3, y4, y5, y6, y7⟩ := blk8 kz1
        have Hkz1 := Lib.hid kz1; have Hhb1 := Lib.hid hb1; have Hkr1 := Lib.hid kr1; have Hkv := Lib.hid kv
        clear kv kz kz1 kr kr1 hb hb1
        go_wp2_with fail
        refine (HC2.out _).mono ?_
        rintro e w2 ⟨rfl, hx⟩
        have kz2' := Hkz1.out.below hx Hkz1.out.lt; have kr2' := Hkr1.out.below hx Hkr1.out.lt; have kv2' := Hkv.out.below hx Hkv.out.lt; have hb2' := Hhb1.out.trans (hx.mono Hhb1.out.size)
        clear hx x0 x1 x2 y0 y1 y2 y3 y4 y5 y6 y7
        obtain ⟨x0, x1, x2⟩ := blk3 kv2'
        obtain ⟨y0, y1, y2, y3, y4, y5, y6, y7⟩ := blk8 kz2'
        by_cases c1 : d < 0
        · have HN0 := Lib.hid (N2.out (by omega))
          have z2 := kz2'.frozen 2; have z3 := kz2'.frozen 3; have z4 := kz2'.frozen 4
          have K9 := Lib.hid (show Blk _ (w.heap.size + 1) 52 #[.int .i64 n0, .bool true, .int .i64 v0, .int .i64 v1, .string ⟨z.toArray⟩, .int .i64 b0, .int .i64 b1, .string ⟨bz.toArray⟩] by simpa using (((kz2'.set_ 2 (.int .i64 v0)).set_ 3 (.int .i64 v1)).set_ 4 (.string ⟨z.toArray⟩)))
          have B9 := Lib.hid ((((hb2'.setCell (p := ⟨w.heap.size + 1, 2, none⟩) (by show w.heap.size ≤ w.heap.size + 1; omega) (.int .i64 v0)).setCell (p := ⟨w.heap.size + 1, 3, none⟩) (by show w.heap.size ≤ w.heap.size + 1; omega) (.int .i64 v1)).setCell (p := ⟨w.heap.size + 1, 4, none⟩) (by show w.heap.size ≤ w.heap.size + 1; omega) (.string ⟨z.toArray⟩)))
          have R9 := Lib.hid ((((kr2'.far (p := ⟨w.heap.size + 1, 2, none⟩) (show w.heap.size ≠ w.heap.size + 1 by omega) (.int .i64 v0)).far (p := ⟨w.heap.size + 1, 3, none⟩) (show w.heap.size ≠ w.heap.size + 1 by omega) (.int .i64 v1)).far (p := ⟨w.heap.size + 1, 4, none⟩) (show w.heap.size ≠ w.heap.size + 1 by omega) (.string ⟨z.toArray⟩)))
          clear kz2' kr2' kv2' hb2' Hkz1 Hhb1 Hkr1 Hkv HC2 HC3 N2 N3 N4
          go_wp2_with fail
          go_round
          case rel => exact ⟨k + 1, by omega, rfl, B9.out, R9.out, _, HN0.out, K9.out⟩
          case measure => simp [intOf]; omega
        have Hkz2' := Lib.hid kz2'; have Hhb2' := Lib.hid hb2'; have Hkr2' := Lib.hid kr2'; have Hkv2' := Lib.hid kv2'
        clear kz2' kr2' kv2' hb2' Hkz1 Hhb1 Hkr1 Hkv HC2
        go_wp2_with fail
        refine (HC3.out _).mono ?_
        rintro e w3 ⟨rfl, hx⟩
        have kz3' := Hkz2'.out.below hx Hkz2'.out.lt; have kr3' := Hkr2'.out.below hx Hkr2'.out.lt; have kv3' := Hkv2'.out.below hx Hkv2'.out.lt; have hb3' := Hhb2'.out.trans (hx.mono Hhb2'.out.size)
        clear hx x0 x1 x2 y0 y1 y2 y3 y4 y5 y6 y7
        obtain ⟨x0, x1, x2⟩ := blk3 kv3'
        obtain ⟨y0, y1, y2, y3, y4, y5, y6, y7⟩ := blk8 kz3'
        by_cases c2 : 0 < d'
        · have HN0 := Lib.hid (N3.out (by omega) (by omega))
          have z5 := kz3'.frozen 5; have z6 := kz3'.frozen 6; have z7 := kz3'.frozen 7
          have K9 := Lib.hid (show Blk _ (w.heap.size + 1) 52 #[.int .i64 n0, .bool true, .int .i64 a0, .int .i64 a1, .string ⟨az.toArray⟩, .int .i64 v0, .int .i64 v1, .string ⟨z.toArray⟩] by simpa using (((kz3'.set_ 5 (.int .i64 v0)).set_ 6 (.int .i64 v1)).set_ 7 (.string ⟨z.toArray⟩)))
          have B9 := Lib.hid ((((hb3'.setCell (p := ⟨w.heap.size + 1, 5, none⟩) (by show w.heap.size ≤ w.heap.size + 1; omega) (.int .i64 v0)).setCell (p := ⟨w.heap.size + 1, 6, none⟩) (by show w.heap.size ≤ w.heap.size + 1; omega) (.int .i64 v1)).setCell (p := ⟨w.heap.size + 1, 7, none⟩) (by show w.heap.size ≤ w.heap.size + 1; omega) (.string ⟨z.toArray⟩)))
          have R9 := Lib.hid ((((kr3'.far (p := ⟨w.heap.size + 1, 5, none⟩) (show w.heap.size ≠ w.heap.size + 1 by omega) (.int .i64 v0)).far (p := ⟨w.heap.size + 1, 6, none⟩) (show w.heap.size ≠ w.heap.size + 1 by omega) (.int .i64 v1)).far (p := ⟨w.heap.size + 1, 7, none⟩) (show w.heap.size ≠ w.heap.size + 1 by omega) (.string ⟨z.toArray⟩)))
          clear kz3' kr3' kv3' hb3' Hkz2' Hhb2' Hkr2' Hkv2' HC3 N2 N3 N4
          go_wp2_with fail
          go_round
          case rel => exact ⟨k + 1, by omega, rfl, B9.out, R9.out, _, HN0.out, K9.out⟩
          case measure => simp [intOf]; omega
        · have HN0 := Lib.hid (N4.out (by omega) (by omega))
          have K9 := Lib.hid kz3'; have B9 := Lib.hid hb3'; have R9 := Lib.hid kr3'
          clear kz3' kr3' kv3' hb3' Hkz2' Hhb2' Hkr2' Hkv2' HC3 N2 N3 N4
          go_wp2_with fail
          go_round
          case rel => exact ⟨k + 1, by omega, rfl, B9.out, R9.out, _, HN0.out, K9.out⟩
          case measure => simp [intOf]; omega
    · obtain rfl : k = n := by omega
      have HZ : Hid (zoV vl = (n0, s, (a0, a1, az), (b0, b1, bz))) := Lib.hid (by rw [← hz, List.take_of_length_le (by rw [HE2.out]; exact Nat.le_refl _)])
      clear hz hrng
      obtain ⟨y0, y1, y2, y3, y4, y5, y6, y7⟩ := blk8 kz
      obtain ⟨x0, x1, x2, x3, x4, x5, x6, x7⟩ := blk8 kr
      have z0 := kr.frozen 0; have z1 := kr.frozen 1; have z2 := kr.frozen 2; have z3 := kr.frozen 3; have z4 := kr.frozen 4; have z5 := kr.frozen 5; have z6 := kr.frozen 6; have z7 := kr.frozen 7
      have K9 := Lib.hid (show Blk _ w.heap.size 52 #[.int .i64 n0, .bool s, .int .i64 a0, .int .i64 a1, .string ⟨az.toArray⟩, .int .i64 b0, .int .i64 b1, .string ⟨bz.toArray⟩] by simpa using ((((((((kr.set_ 0 (.int .i64 n0)).set_ 1 (.bool s)).set_ 2 (.int .i64 a0)).set_ 3 (.int .i64 a1)).set_ 4 (.string ⟨az.toArray⟩)).set_ 5 (.int .i64 b0)).set_ 6 (.int .i64 b1)).set_ 7 (.string ⟨bz.toArray⟩)))
      have B9 := Lib.hid (((((((((hb.setCell (p := ⟨w.heap.size, 0, none⟩) (Nat.le_refl _) (.int .i64 n0)).setCell (p := ⟨w.heap.size, 1, none⟩) (Nat.le_refl _) (.bool s)).setCell (p := ⟨w.heap.size, 2, none⟩) (Nat.le_refl _) (.int .i64 a0)).setCell (p := ⟨w.heap.size, 3, none⟩) (Nat.le_refl _) (.int .i64 a1)).setCell (p := ⟨w.heap.size, 4, none⟩) (Nat.le_refl _) (.string ⟨az.toArray⟩)).setCell (p := ⟨w.heap.size, 5, none⟩) (Nat.le_refl _) (.int .i64 b0)).setCell (p := ⟨w.heap.size, 6, none⟩) (Nat.le_refl _) (.int .i64 b1)).setCell (p := ⟨w.heap.size, 7, none⟩) (Nat.le_refl _) (.string ⟨bz.toArray⟩)))
      clear kz kr hb HC
      go_wp2_with fail
      exact bodyPost_ret (v := .agg #[.int .i64 n0, .bool s, .int .i64 a0, .int .i64 a1, .string ⟨az.toArray⟩, .int .i64 b0, .int .i64 b1, .string ⟨bz.toArray⟩]) (results_cell_row rfl _ _ _ _ _ _ _ (by rfl) K9.out Tryz.underlying52 rfl (by kernel_rfl)) rfl ⟨by rw [HZ.out]; rfl, B9.out⟩
end Go.Proofs.YticanhidahkhfaaGreatDoor
