/- Contracts of pred's faultOf, fault, check and Check at a predicate whose values and parts have nothing in them. -/
import Derived.Test.YtmjpjllbfgkfbaaDoorZwFmP
import Derived.Test.YtmjpjllbfgkfbaaDoorJ4
import Derived.Test.YtmjpjllbfgkfbaaDoorVlRow
namespace Go.Proofs.YtmjpjllbfgkfbaaDoor
open Go.RowKit
set_option linter.unusedVariables false
set_option linter.unusedSimpArgs false
set_option maxRecDepth 100000

/-- So many zero values. -/
def zvs (n : Nat) : List Vl := List.replicate n (0, 0, [])
theorem zvs_length (n : Nat) : (zvs n).length = n := by simp [zvs]
section
variable {A : Option Addr} {n c : Nat} {w : World}
set_option maxHeartbeats 1000000 in
theorem faultOf_any (hr : Reads w w.heap.size 3 A n (vs (zvs n))) (hn : n ≤ 65536) : Calls Tryd.prog 35 #[.slice A n c, .int .i64 0] w fun e w' => e = .returned (.int .i64 (if n = 0 then 0 else 11)) ∧ Below w.heap.size w w' := by
  have HV := Lib.hid fun (W : World) (hs : Reads W W.heap.size 3 (some ⟨w.heap.size, 0, none⟩) 1 (cls [(0, false, 0)])) (g : Nat) (hv : Reads W W.heap.size 3 (some ⟨g, 0, none⟩) 1 (vs [(0, 0, [])])) => rowV_any (some ⟨w.heap.size, 0, none⟩) (some ⟨g, 0, none⟩) 1 1 1 1 [(0, false, 0)] [(0, 0, [])] W hs hv (by omega) (by omega)
  rw [show rwE [(0, false, 0)] [(0, 0, [])] = 11 from by simp [rwE, colsE, colE]] at HV
  have hbc := (Below.refl w.heap.size w).alloc (Nat.le_refl _) (.cells #[.int .i64 0, .bool false, .int .i64 0] 43)
  have kc := Blk.new w 43 #[.int .i64 0, .bool false, .int .i64 0]
  by_cases h0 : n = 0
  · subst h0
    rw [if_pos rfl]
    have HB := Lib.hid hbc
    clear hr HV kc hbc
    go_enter Tryd.func35, Tryd.ntmps35
    go_wp2_with fail
    go_loopw [6, 15] (fun e i wr => e = .int .i64 0 ∧ i = .int .i64 0 ∧ Below w.heap.size w wr) (fun _ _ _ => 0)
    case atStart => exact ⟨rfl, rfl, HB.out⟩
    case round =>
      clear HB
      obtain ⟨rfl, rfl, hb⟩ := hrel
      go_wp2_with fail
      go_ret
      exact ⟨by first | rfl | simp, hb⟩
  · rw [if_neg h0]
    have hz0 : (zvs n)[0]? = some (0, 0, []) := by rw [zvs, List.getElem?_replicate, if_pos (by omega)]
    obtain ⟨b, o, rfl, hb0, v0, v1, v2⟩ := hr.val hz0
    rw [Nat.zero_mul, Nat.add_zero] at v0 v1 v2
    have u0 := (hbc.cell (p := ⟨b, o, none⟩) hb0).trans v0; have u1 := (hbc.cell (p := ⟨b, o + 1, none⟩) hb0).trans v1; have u2 := (hbc.cell (p := ⟨b, o + 2, none⟩) hb0).trans v2
    have HB := Lib.hid hbc; have HKC := Lib.hid kc
    have HU := Lib.hid (And.intro u0 (And.intro u1 u2))
    clear hr hbc kc hz0 v0 v1 v2 u0 u1 u2 hb0
    go_enter Tryd.func35, Tryd.ntmps35
    go_wp2_with fail
    go_loopw [6, 15] (fun e i wr => e = .int .i64 0 ∧ i = .int .i64 0 ∧ wr = w.alloc (.cells #[.int .i64 0, .bool false, .int .i64 0] 43)) (fun _ _ _ => 0)
    case atStart => exact ⟨rfl, rfl, rfl⟩
    case round =>
      obtain ⟨rfl, rfl, rfl⟩ := hrel
      obtain ⟨u0, u1, u2⟩ := HU.out
      have hnn : 0 < n := by omega
      obtain ⟨W, hW⟩ : ∃ q, w.alloc (.cells #[.int .i64 0, .bool false, .int .i64 0] 43) = q := ⟨_, rfl⟩
      have hsz : w.heap.size + 1 = W.heap.size := by rw [← hW, World.size_alloc]
      rw [hW] at u0 u1 u2 HKC HB ⊢
      have b1 := (Below.refl W.heap.size W).alloc (Nat.le_refl _) (.cells #[.int .i64 0, .int .i64 0, .string ⟨#[]⟩] 37)
      have b2 := b1.alloc b1.size (.cells #[.int .i64 0, .int .i64 0, .string ⟨#[]⟩] 37)
      have kv := reads_blkZ (Blk.new (W.alloc (.cells #[.int .i64 0, .int .i64 0, .string ⟨#[]⟩] 37)) 37 #[.int .i64 0, .int .i64 0, .string ⟨#[]⟩]) (n := 1) (s := 3) (xs := vs [(0, 0, [])]) rfl
      simp only [World.size_alloc] at kv
      have ks := reads_blkZ (HKC.out.below b2 HKC.out.lt) (n := 1) (s := 3) (xs := cls [(0, false, 0)]) rfl
      have HV2 := Lib.hid (HV.out _ ks (W.heap.size + 1) (by simp only [World.size_alloc]; exact kv))
      have HB2 := Lib.hid (HB.out.trans (b2.mono HB.out.size))
      clear hW b1 b2 kv ks HV HU HB HKC h0
      go_wp2_with fail
      refine HV2.out.mono ?_
      rintro e w1 ⟨rfl, hb⟩
      go_wp2_with fail
      go_ret
      exact ⟨by first | rfl | simp, HB2.out.trans (hb.mono HB2.out.size)⟩
end
/-- What is wrong with such a predicate, whatever its parts are. -/
def fltE (m : Nat) (op col : Int) (nv np : Nat) : Int :=
  if 256 < nv ∨ 256 < np then 12 else if fmP op col nv np = false then 4 else if shB op.toNat = false then 0 else if ¬ (0 ≤ col ∧ col < (m : Int)) then 8 else if nv = 0 then 0 else 11
section
variable {S : Option Addr} {b o nv c np c' m cs : Nat} {op col : Int} {A A' : Option Addr} {w : World}
set_option maxHeartbeats 4000000 in
theorem fault_any (h : Nd w b o op col A nv c A' np c') (hs : Shp w) (hS : Reads w w.heap.size 3 S m (zcl m)) (hv : Reads w w.heap.size 3 A nv (vs (zvs nv))) (hm : m ≤ 65536) (hn : nv ≤ 65536) (hp : np ≤ 65536) :
    Calls Tryd.prog 23 #[.slice S m cs, .pointer (some ⟨b, o, none⟩)] w fun e w' => e = .returned (.int .i64 (fltE m op col nv np)) ∧ Below w.heap.size w w' := by
  have HF := Lib.hid (formedP_any h hs)
  have HN := Lib.hid fun (W : World) (hb : Below w.heap.size w W) => h.next hb
  have HP := Lib.hid fun W => isPlace_any col (m : Int) W
  obtain ⟨_, x0, x1, x2, x3⟩ := h
  unfold fltE
  by_cases h1 : 256 < nv
  · rw [if_pos (.inl h1)]
    have d1 : decide (256 < (nv : Int)) = true := by simp; omega
    clear hs hS hv h1 HF HN HP
    go_enter Tryd.func23, Tryd.ntmps23
    go_wp2_with fail
    go_ret
    exact ⟨by first | rfl | simp, Below.refl _ _⟩
  · have d1 : decide (256 < (nv : Int)) = false := by simp; omega
    by_cases h2 : 256 < np
    · rw [if_pos (.inr h2)]
      have d2 : decide (256 < (np : Int)) = true := by simp; omega
      clear hs hS hv h1 h2 HF HN HP
      go_enter Tryd.func23, Tryd.ntmps23
      go_wp2_with fail
      go_ret
      exact ⟨by first | rfl | simp, Below.refl _ _⟩
    · have d2 : decide (256 < (np : Int)) = false := by simp; omega
      rw [if_neg (by omega)]
      by_cases h3 : fmP op col nv np = false
      · rw [if_pos h3]
        rw [h3] at HF
        clear hs hS hv h1 h2 h3 HN HP
        go_enter Tryd.func23, Tryd.ntmps23
        go_wp2_with fail
        refine HF.out.mono ?_
        rintro e w1 ⟨rfl, hb1⟩
        go_wp2_with fail
        go_ret
        exact ⟨by first | rfl | simp, hb1⟩
      · rw [if_neg h3]
        rw [show fmP op col nv np = true by simpa using h3] at HF
        have hop : 0 ≤ op ∧ op < 13 := by
          refine Classical.byContradiction fun e => h3 ?_
          unfold fmP
          rw [if_neg e]
        obtain ⟨k, rfl⟩ : ∃ k : Nat, op = (k : Int) := ⟨op.toNat, by omega⟩
        have hk : k < 13 := by omega
        rw [Int.toNat_natCast]
        have HS := Lib.hid fun (W : World) (hb : Below w.heap.size w W) => ((hs.next hb) k hk).1
        have d4 : decide ((k : Int) < 0) = false := by simp
        have d5 : decide (13 ≤ (k : Int)) = false := by simp; omega
        by_cases h4 : shB k = false
        · rw [if_pos h4]
          rw [h4] at HS
          clear hs hS hv h1 h2 h3 h4 hop HP
          go_enter Tryd.func23, Tryd.ntmps23
          go_wp2_with fail
          refine HF.out.mono ?_
          rintro e w1 ⟨rfl, hb1⟩
          clear x0 x1 x2 x3
          obtain ⟨_, x0, x1, x2, x3⟩ := HN.out _ hb1
          have s0 := HS.out _ hb1
          go_wp2_with fail
          go_ret
          exact ⟨by first | rfl | simp, hb1⟩
        · rw [if_neg h4]
          rw [show shB k = true by simpa using h4] at HS
          by_cases h5 : 0 ≤ col ∧ col < (m : Int)
          · rw [if_neg (by simpa using h5)]
            rw [show decide (0 ≤ col ∧ col < (m : Int)) = true by simpa using h5] at HP
            obtain ⟨j, rfl⟩ : ∃ j : Nat, col = (j : Int) := ⟨col.toNat, by omega⟩
            have hj : j < m := by omega
            obtain ⟨bs, os, rfl, hbs, y0⟩ := zcl_kind hS hj
            have HY := Lib.hid fun (W : World) (hb : Below w.heap.size w W) => ((hb.cell (p := ⟨bs, os + j * 3, none⟩) hbs).trans y0)
            have HFO := Lib.hid fun (W : World) (hb : Below w.heap.size w W) => faultOf_any (c := c) ((hv.below hb).more hb.size) hn
            obtain ⟨R, hR⟩ : ∃ R : Int, (if nv = 0 then 0 else 11) = R := ⟨_, rfl⟩
            rw [hR] at HFO ⊢
            have d6 : decide ((j : Int) < 0) = false := by simp
            have d7 : decide ((m : Int) ≤ (j : Int)) = false := by simp; omega
            clear hs hS hv h1 h2 h3 h4 h5 hop y0 hR
            go_enter Tryd.func23, Tryd.ntmps23
            go_wp2_with fail
            refine HF.out.mono ?_
            rintro e w1 ⟨rfl, hb1⟩
            clear x0 x1 x2 x3
            obtain ⟨_, x0, x1, x2, x3⟩ := HN.out _ hb1
            have s0 := HS.out _ hb1
            have y0 := HY.out _ hb1
            go_wp2_with fail
            refine (HP.out _).mono ?_
            rintro e w2 ⟨rfl, rfl⟩
            go_upto_region 10 with fail
            have z0 := cell_regrown x0; have z1 := cell_regrown x1; have z2 := cell_regrown x2
            have t0 := cell_regrown y0
            have YF := Lib.hid (show Yields w1.heap.size w1 35 #[.slice A nv c, .int .i64 0] (.int .i64 R) from fun V hb => (HFO.out V (hb1.trans (hb.mono hb1.size))).mono fun e w' ⟨he, hw⟩ => ⟨he, hb.trans (hw.mono hb.size)⟩)
            clear x0 x1 x2 x3 s0 y0 HFO
            refine wp_region_quiet_below (by kernel_rfl) (by kernel_rfl) ?_
            repeat (go_big_quiet_step (first | (go_at_call 35; with_reducible exact YF.out.quiet _ _)))
            refine wpQuiet_nil ?_
            intro V hV
            have hbp : Below w1.heap.size w1 V := by obtain ⟨pp, e⟩ := hV; subst e; exact below_regrown w1 pp.d pp.os
            clear hV YF z0 z1 z2 t0
            go_wp2_with fail
            go_ret
            exact ⟨by first | rfl | simp, hb1.trans (hbp.mono hb1.size)⟩
          · rw [if_pos (by simpa using h5)]
            rw [show decide (0 ≤ col ∧ col < (m : Int)) = false by simpa using h5] at HP
            clear hs hS hv h1 h2 h3 h4 h5 hop
            go_enter Tryd.func23, Tryd.ntmps23
            go_wp2_with fail
            refine HF.out.mono ?_
            rintro e w1 ⟨rfl, hb1⟩
            clear x0 x1 x2 x3
            obtain ⟨_, x0, x1, x2, x3⟩ := HN.out _ hb1
            have s0 := HS.out _ hb1
            go_wp2_with fail
            refine (HP.out _).mono ?_
            rintro e w2 ⟨rfl, rfl⟩
            go_wp2_with fail
            go_ret
            exact ⟨by first | rfl | simp, hb1⟩
end
end Go.Proofs.YtmjpjllbfgkfbaaDoor
