/- pred's faultOf, fault, check and Check of any predicate and any schema: something comes of it. Nothing that was there changes. -/
import Derived.Test.YtmjpjllbfgkfbaaDoorZwFlt
import Derived.Test.YtmjpjllbfgkfbaaDoorJ3
namespace Go.Proofs.YtmjpjllbfgkfbaaDoor
open Go.RowKit
set_option linter.unusedVariables false
set_option linter.unusedSimpArgs false
set_option maxRecDepth 100000

/-- What is wrong with values that might stand in a column of the kind, behind what was told so far. -/
def fV (kind : Int) : List Vl → Int → Int
  | [], x => x
  | v :: l, x => if colE (kind, false, 0) v = 11 then 11 else fV kind l (if colE (kind, false, 0) v = 12 then 12 else x)
theorem fV_end {kind : Int} {l : List Vl} {n : Nat} (h : l.length ≤ n) (x : Int) : fV kind (l.drop n) x = x := by rw [List.drop_eq_nil_of_le h]; rfl
theorem fV_step {kind : Int} {l : List Vl} {k : Nat} {v : Vl} (h : l[k]? = some v) (x : Int) : fV kind (l.drop k) x = if colE (kind, false, 0) v = 11 then 11 else fV kind (l.drop (k + 1)) (if colE (kind, false, 0) v = 12 then 12 else x) := by
  obtain ⟨hk, rfl⟩ := List.getElem?_eq_some_iff.1 h
  rw [List.drop_eq_getElem_cons hk]
  rfl
theorem rw_one (c : Cl) (v : Vl) : rwE [c] [v] = colE c v := by
  unfold rwE
  rw [if_neg (by simp)]
  unfold colsE
  by_cases h : colE c v = 0
  · rw [if_neg (by simp [h]), h]; rfl
  · rw [if_pos h]
section
variable {A : Option Addr} {n c : Nat} {w : World} {vl : List Vl}
set_option maxHeartbeats 2000000 in
theorem faultV_any (hr : Reads w w.heap.size 3 A n (vs vl)) (hn : n ≤ 140737488355328) (kind : Int) : Calls Tryd.prog 35 #[.slice A n c, .int .i64 kind] w fun e w' => e = .returned (.int .i64 (fV kind vl 0)) ∧ Below w.heap.size w w' := by
  have e2 : vl.length = n := by have := hr.1; rw [vs_length] at this; omega
  have HE2 := Lib.hid e2
  obtain ⟨R, hR⟩ : ∃ R, fV kind vl 0 = R := ⟨_, rfl⟩
  rw [hR]
  have HQ0 : Hid (fV kind (vl.drop 0) 0 = R) := Lib.hid (by simpa using hR)
  have hbc := (Below.refl w.heap.size w).alloc (Nat.le_refl _) (.cells #[.int .i64 kind, .bool false, .int .i64 0] 43)
  have kc := Blk.new w 43 #[.int .i64 kind, .bool false, .int .i64 0]
  have HB := Lib.hid hbc; have HKC := Lib.hid kc; have HR := Lib.hid hr
  clear hbc kc hr hR e2
  go_enter Tryd.func35, Tryd.ntmps35
  go_wp2_with fail
  go_loopw [6, 15] (fun e i wr => ∃ (k : Nat) (x : Int), k ≤ n ∧ i = .int .i64 (k : Int) ∧ e = .int .i64 x ∧ Hid (fV kind (vl.drop k) x = R) ∧ Below w.heap.size w wr ∧ Blk wr w.heap.size 43 #[.int .i64 kind, .bool false, .int .i64 0]) (fun _ i _ => n - (intOf i).toNat)
  case atStart => exact ⟨0, 0, Nat.zero_le _, rfl, rfl, HQ0, HB.out, HKC.out⟩
  case round =>
    clear HB HKC HQ0
    obtain ⟨k, x, hk, rfl, rfl, HQ, hb, kc⟩ := hrel
    by_cases hlt : k < n
    · obtain ⟨⟨v0, v1, z⟩, hv⟩ : ∃ v, vl[k]? = some v := ⟨_, List.getElem?_eq_getElem (by rw [HE2.out]; omega)⟩
      obtain ⟨b', o', rfl, hb0', u0, u1, u2⟩ := (HR.out.below hb).val hv
      have hstep := HQ.out
      rw [fV_step hv] at hstep
      obtain ⟨E, hE⟩ : ∃ E, colE (kind, false, 0) (v0, v1, z) = E := ⟨_, rfl⟩
      rw [hE] at hstep
      have hE3 : E = 0 ∨ E = 11 ∨ E = 12 := by rw [← hE]; unfold colE; split; · exact .inr (.inl rfl)
                                               split; · exact .inr (.inr rfl)
                                               exact .inl rfl
      have b1 := (Below.refl wr.heap.size wr).alloc (Nat.le_refl _) (.cells #[.int .i64 v0, .int .i64 v1, .string ⟨z.toArray⟩] 37)
      have b2 := b1.alloc b1.size (.cells #[.int .i64 v0, .int .i64 v1, .string ⟨z.toArray⟩] 37)
      have kv := reads_blkZ (Blk.new (wr.alloc (.cells #[.int .i64 v0, .int .i64 v1, .string ⟨z.toArray⟩] 37)) 37 #[.int .i64 v0, .int .i64 v1, .string ⟨z.toArray⟩]) (n := 1) (s := 3) (xs := vs [(v0, v1, z)]) rfl
      simp only [World.size_alloc] at kv
      have ks := reads_blkZ (kc.below b2 kc.lt) (n := 1) (s := 3) (xs := cls [(kind, false, 0)]) rfl
      have hV := rowV_any (some ⟨w.heap.size, 0, none⟩) (some ⟨wr.heap.size + 1, 0, none⟩) 1 1 1 1 [(kind, false, 0)] [(v0, v1, z)] _ ks (by simp only [World.size_alloc]; exact kv) (by omega) (by omega)
      rw [rw_one, hE] at hV
      have HV := Lib.hid hV
      have HB2 := Lib.hid (hb.trans (b2.mono hb.size))
      have KC2 := Lib.hid (kc.below b2 kc.lt)
      have HS := Lib.hid hstep
      clear hE hstep hV b1 b2 kv ks kc hb hv HQ HR
      go_wp2_with fail
      refine HV.out.mono ?_
      rintro e w1 ⟨rfl, hb⟩
      have HB3 := Lib.hid (HB2.out.trans (hb.mono HB2.out.size))
      have KC3 := Lib.hid (KC2.out.below hb KC2.out.lt)
      clear hb HV HB2 KC2
      rcases hE3 with rfl | rfl | rfl
      · have HQ1 : Hid (fV kind (vl.drop (k + 1)) x = R) := Lib.hid (by have := HS.out; rwa [if_neg (by decide), if_neg (by decide)] at this)
        clear HS
        go_wp2_with fail
        go_round
        case rel => exact ⟨k + 1, x, by omega, by go_num, rfl, HQ1, HB3.out, KC3.out⟩
        case measure => simp [intOf]; omega
      · have HQ1 : Hid (11 = R) := Lib.hid (by have := HS.out; rwa [if_pos (by decide)] at this)
        clear HS
        go_wp2_with fail
        go_ret
        exact ⟨by rw [← HQ1.out]; rfl, HB3.out⟩
      · have HQ1 : Hid (fV kind (vl.drop (k + 1)) 12 = R) := Lib.hid (by have := HS.out; rwa [if_neg (by decide), if_pos (by decide)] at this)
        clear HS
        go_wp2_with fail
        go_round
        case rel => exact ⟨k + 1, 12, by omega, by go_num, rfl, HQ1, HB3.out, KC3.out⟩
        case measure => simp [intOf]; omega
    · have HQ1 : Hid (x = R) := Lib.hid (by have := HQ.out; rwa [fV_end (by rw [HE2.out]; omega)] at this)
      have HB3 := Lib.hid hb
      clear HQ kc hb HR
      go_wp2_with fail
      go_ret
      exact ⟨by rw [← HQ1.out]; first | rfl | simp, HB3.out⟩
end
/-- What is wrong with a predicate, whatever its parts are. -/
def fltV (m : Nat) (sl : List Cl) (vals : List Vl) (op col : Int) (nv np : Nat) : Int :=
  if 256 < nv ∨ 256 < np then 12 else if fmP op col nv np = false then 4 else if shB op.toNat = false then 0 else if ¬ (0 ≤ col ∧ col < (m : Int)) then 8 else fV (sl.getD col.toNat (0, false, 0)).1 vals 0
section
variable {S : Option Addr} {b o nv c np c' m cs : Nat} {op col : Int} {A A' : Option Addr} {w : World} {sl : List Cl} {vals : List Vl}
set_option maxHeartbeats 4000000 in
theorem faultG_any (h : Nd w b o op col A nv c A' np c') (hs : Shp w) (hS : Reads w w.heap.size 3 S m (cls sl)) (hv : Reads w w.heap.size 3 A nv (vs vals)) (hm : m ≤ 65536) (hn : nv ≤ 65536) (hp : np ≤ 65536) :
    Calls Tryd.prog 23 #[.slice S m cs, .pointer (some ⟨b, o, none⟩)] w fun e w' => e = .returned (.int .i64 (fltV m sl vals op col nv np)) ∧ Below w.heap.size w w' := by
  have HF := Lib.hid (formedP_any h hs)
  have HN := Lib.hid fun (W : World) (hb : Below w.heap.size w W) => h.next hb
  have HP := Lib.hid fun W => isPlace_any col (m : Int) W
  obtain ⟨_, x0, x1, x2, x3⟩ := h
  unfold fltV
  by_cases h1 : 256 < nv
  · rw [if_pos (.inl h1)]
    have d1 : decide (256 < (nv : Int)) = true := by simp; omega
    clear hs hS hv h1 HF HN HP
    go_enter Tryd.func23, Tryd.ntmps23
    go_wp2_with fail
    go_ret
    exact ⟨by first | rfl | simp, Below.refl _ _⟩
  · have d1 : decide (256 < (nv : Int)) = false := by simp; omega
    by_cases h2 : 256 < np
    · rw [if_pos (.inr h2)]
      have d2 : decide (256 < (np : Int)) = true := by simp; omega
      clear hs hS hv h1 h2 HF HN HP
      go_enter Tryd.func23, Tryd.ntmps23
      go_wp2_with fail
      go_ret
      exact ⟨by first | rfl | simp, Below.refl _ _⟩
    · have d2 : decide (256 < (np : Int)) = false := by simp; omega
      rw [if_neg (by omega)]
      by_cases h3 : fmP op col nv np = false
      · rw [if_pos h3]
        rw [h3] at HF
        clear hs hS hv h1 h2 h3 HN HP
        go_enter Tryd.func23, Tryd.ntmps23
        go_wp2_with fail
        refine HF.out.mono ?_
        rintro e w1 ⟨rfl, hb1⟩
        go_wp2_with fail
        go_ret
        exact ⟨by first | rfl | simp, hb1⟩
      · rw [if_neg h3]
        rw [show fmP op col nv np = true by simpa using h3] at HF
        have hop : 0 ≤ op ∧ op < 13 := by
          refine Classical.byContradiction fun e => h3 ?_
          unfold fmP
          rw [if_neg e]
        obtain ⟨k, rfl⟩ : ∃ k : Nat, op = (k : Int) := ⟨op.toNat, by omega⟩
        have hk : k < 13 := by omega
        rw [Int.toNat_natCast]
        have HS := Lib.hid fun (W : World) (hb : Below w.heap.size w W) => ((hs.next hb) k hk).1
        have d4 : decide ((k : Int) < 0) = false := by simp
        have d5 : decide (13 ≤ (k : Int)) = false := by simp; omega
        by_cases h4 : shB k = false
        · rw [if_pos h4]
          rw [h4] at HS
          clear hs hS hv h1 h2 h3 h4 hop HP
          go_enter Tryd.func23, Tryd.ntmps23
          go_wp2_with fail
          refine HF.out.mono ?_
          rintro e w1 ⟨rfl, hb1⟩
          clear x0 x1 x2 x3
          obtain ⟨_, x0, x1, x2, x3⟩ := HN.out _ hb1
          have s0 := HS.out _ hb1
          go_wp2_with fail
          go_ret
          exact ⟨by first | rfl | simp, hb1⟩
        · rw [if_neg h4]
          rw [show shB k = true by simpa using h4] at HS
          by_cases h5 : 0 ≤ col ∧ col < (m : Int)
          · rw [if_neg (by simpa using h5)]
            rw [show decide (0 ≤ col ∧ col < (m : Int)) = true by simpa using h5] at HP
            obtain ⟨j, rfl⟩ : ∃ j : Nat, col = (j : Int) := ⟨col.toNat, by omega⟩
            have hj : j < m := by omega
            obtain ⟨⟨kd, nu, wy⟩, hc⟩ : ∃ v, sl[j]? = some v := ⟨_, List.getElem?_eq_getElem (by have := hS.1; rw [cls_length] at this; omega)⟩
            obtain ⟨bs, os, rfl, hbs, y0, _, _⟩ := hS.col hc
            have HY := Lib.hid fun (W : World) (hb : Below w.heap.size w W) => ((hb.cell (p := ⟨bs, os + j * 3, none⟩) hbs).trans y0)
            have HFO := Lib.hid fun (W : World) (hb : Below w.heap.size w W) => faultV_any (c := c) ((hv.below hb).more hb.size) (by omega) kd
            rw [show (sl.getD ((j : Int)).toNat (0, false, 0)).1 = kd from by rw [Int.toNat_natCast, List.getD_eq_getElem?_getD, hc]; rfl]
            obtain ⟨R, hR⟩ : ∃ R : Int, fV kd vals 0 = R := ⟨_, rfl⟩
            rw [hR] at HFO ⊢
            have d6 : decide ((j : Int) < 0) = false := by simp
            have d7 : decide ((m : Int) ≤ (j : Int)) = false := by simp; omega
            clear hs hS hv h1 h2 h3 h4 h5 hop y0 hR hc
            go_enter Tryd.func23, Tryd.ntmps23
            go_wp2_with fail
            refine HF.out.mono ?_
            rintro e w1 ⟨rfl, hb1⟩
            clear x0 x1 x2 x3
            obtain ⟨_, x0, x1, x2, x3⟩ := HN.out _ hb1
            have s0 := HS.out _ hb1
            have y0 := HY.out _ hb1
            go_wp2_with fail
            refine (HP.out _).mono ?_
            rintro e w2 ⟨rfl, rfl⟩
            go_upto_region 10 with fail
            have z0 := cell_regrown x0; have z1 := cell_regrown x1; have z2 := cell_regrown x2
            have t0 := cell_regrown y0
            have YF := Lib.hid (show Yields w1.heap.size w1 35 #[.slice A nv c, .int .i64 kd] (.int .i64 R) from fun V hb => (HFO.out V (hb1.trans (hb.mono hb1.size))).mono fun e w' ⟨he, hw⟩ => ⟨he, hb.trans (hw.mono hb.size)⟩)
            clear x0 x1 x2 x3 s0 y0 HFO
            refine wp_region_quiet_below (by kernel_rfl) (by kernel_rfl) ?_
            repeat (go_big_quiet_step (first | (go_at_call 35; with_reducible exact YF.out.quiet _ _)))
            refine wpQuiet_nil ?_
            intro V hV
            have hbp : Below w1.heap.size w1 V := by obtain ⟨pp, e⟩ := hV; subst e; exact below_regrown w1 pp.d pp.os
            clear hV YF z0 z1 z2 t0
            go_wp2_with fail
            go_ret
            exact ⟨by first | rfl | simp, hb1.trans (hbp.mono hb1.size)⟩
          · rw [if_pos (by simpa using h5)]
            rw [show decide (0 ≤ col ∧ col < (m : Int)) = false by simpa using h5] at HP
            clear hs hS hv h1 h2 h3 h4 h5 hop
            go_enter Tryd.func23, Tryd.ntmps23
            go_wp2_with fail
            refine HF.out.mono ?_
            rintro e w1 ⟨rfl, hb1⟩
            clear x0 x1 x2 x3
            obtain ⟨_, x0, x1, x2, x3⟩ := HN.out _ hb1
            have s0 := HS.out _ hb1
            go_wp2_with fail
            refine (HP.out _).mono ?_
            rintro e w2 ⟨rfl, rfl⟩
            go_wp2_with fail
            go_ret
            exact ⟨by first | rfl | simp, hb1⟩
end
end Go.Proofs.YtmjpjllbfgkfbaaDoor
