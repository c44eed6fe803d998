/- Contract of the document's one of layer 17 at PIn. -/
import Derived.Deep.QuietTactic
import Derived.Deep.DeepCutAuto
import Derived.Test.YtobophhlcekngaaDoorZnOne
namespace Go.Proofs.YtobophhlcekngaaDoor
open Go.RowKit
set_option linter.unusedVariables false
set_option linter.unusedSimpArgs false
set_option maxRecDepth 100000

section
variable {col : Int} {A A' : Option Addr} {c n c' : Nat} {w : World}
set_option maxHeartbeats 8000000 in
theorem one7 (vals : List Vl) (m : Nat) (z : Zn) (hr : Reads w w.heap.size 3 A m (vs vals)) (hm : m ≤ 65536) :
    Calls Tryd.prog 15 #[.agg #[.int .i64 7, .int .i64 col, .slice A m c, .slice A' n c'], zW z] w fun e w' => e = .returned (.tuple #[.bool (oneZ 7 vals z).1, .bool (oneZ 7 vals z).2]) ∧ Below w.heap.size w w' := by
  have hl : vals.length = m := by have := hr.1; rw [vs_length] at this; omega
  obtain ⟨nl, so, mn, mx⟩ := z
  rw [show oneZ 7 vals (nl, so, mn, mx) = (vals.any fun v => decide (0 ≤ cmpV v mn) && decide (cmpV v mx ≤ 0), vals.all fun v => !(decide (cmpV v mn = 0) && decide (cmpV v mx = 0))) from rfl]
  have HC1 := Lib.hid fun (v : Vl) (W : World) => cmp17_any v mn W
  have HC2 := Lib.hid fun (v : Vl) (W : World) => cmp17_any v mx W
  obtain ⟨T, hT⟩ : ∃ q, (vals.any fun v => decide (0 ≤ cmpV v mn) && decide (cmpV v mx ≤ 0)) = q := ⟨_, rfl⟩
  obtain ⟨F, hF⟩ : ∃ q, (vals.all fun v => !(decide (cmpV v mn = 0) && decide (cmpV v mx = 0))) = q := ⟨_, rfl⟩
  rw [hT, hF]
  have HT0 : Hid ((false || (vals.drop 0).any fun v => decide (0 ≤ cmpV v mn) && decide (cmpV v mx ≤ 0)) = T) := Lib.hid (by simpa using hT)
  have HF0 : Hid ((true && (vals.drop 0).all fun v => !(decide (cmpV v mn = 0) && decide (cmpV v mx = 0))) = F) := Lib.hid (by simpa using hF)
  clear hT hF
  obtain ⟨m0, m1, zm⟩ := mn
  obtain ⟨n0, n1, zn⟩ := mx
  simp only [vW, zW] at HC1 HC2 ⊢
  have K1 := (Blk.new w 25 #[.int .i64 7, .int .i64 col, .slice A m c, .slice A' n c']).alloc (.cells #[.int .i64 nl, .bool so, .int .i64 m0, .int .i64 m1, .string ⟨zm.toArray⟩, .int .i64 n0, .int .i64 n1, .string ⟨zn.toArray⟩] 37)
  have K2 := Blk.new (w.alloc (.cells #[.int .i64 7, .int .i64 col, .slice A m c, .slice A' n c'] 25)) 37 #[.int .i64 nl, .bool so, .int .i64 m0, .int .i64 m1, .string ⟨zm.toArray⟩, .int .i64 n0, .int .i64 n1, .string ⟨zn.toArray⟩]
  have HB := ((Below.refl w.heap.size w).alloc (Nat.le_refl _) (.cells #[.int .i64 7, .int .i64 col, .slice A m c, .slice A' n c'] 25)).alloc (by simp) (.cells #[.int .i64 nl, .bool so, .int .i64 m0, .int .i64 m1, .string ⟨zm.toArray⟩, .int .i64 n0, .int .i64 n1, .string ⟨zn.toArray⟩] 37)
  rw [World.size_alloc] at K2
  obtain ⟨w0, hw0⟩ : ∃ q, q = ((w.alloc (.cells #[.int .i64 7, .int .i64 col, .slice A m c, .slice A' n c'] 25)).alloc (.cells #[.int .i64 nl, .bool so, .int .i64 m0, .int .i64 m1, .string ⟨zm.toArray⟩, .int .i64 n0, .int .i64 n1, .string ⟨zn.toArray⟩] 37)) := ⟨_, rfl⟩
  rw [← hw0] at K1 K2 HB
  have HW0 := Lib.hid hw0
  have HK1 := Lib.hid K1; have HK2 := Lib.hid K2; have HHB := Lib.hid HB; have HL := Lib.hid hl; have HR := Lib.hid hr
  have hSt : Below w0.heap.size w0 (((w.alloc (.cells #[.int .i64 7, .int .i64 col, .slice A m c, .slice A' n c'] 25)).alloc (.cells #[.int .i64 nl, .bool so, .int .i64 m0, .int .i64 m1, .string ⟨zm.toArray⟩, .int .i64 n0, .int .i64 n1, .string ⟨zn.toArray⟩] 37))) := by rw [HW0.out]; exact Below.refl _ _
  have HST := Lib.hid hSt
  clear hw0 K1 K2 HB hl hr hSt HW0
  go_enter Tryd.func15, Tryd.ntmps15
  go_wp2_with fail
  go_loopw [9, 10, 11] (fun t f i wr => ∃ (k : Nat) (tb fb : Bool), k ≤ m ∧ t = .bool tb ∧ f = .bool fb ∧ i = .int .i64 (k : Int) ∧ Below w0.heap.size w0 wr ∧ Hid ((tb || (vals.drop k).any fun v => decide (0 ≤ cmpV v (m0, m1, zm)) && decide (cmpV v (n0, n1, zn) ≤ 0)) = T) ∧ Hid ((fb && (vals.drop k).all fun v => !(decide (cmpV v (m0, m1, zm) = 0) && decide (cmpV v (n0, n1, zn) = 0))) = F)) (fun _ _ i _ => m - (intOf i).toNat)
  case atStart => exact ⟨0, false, true, Nat.zero_le _, rfl, rfl, rfl, HST.out, HT0, HF0⟩
  case round =>
    clear HT0 HF0 HST
    obtain ⟨k, tb, fb, hk, rfl, rfl, rfl, hb, HT, HF⟩ := hrel
    obtain ⟨p0, p1, p2, p3⟩ := blk4' (HK1.out.below hb HK1.out.lt)
    by_cases hlt : k < m
    · obtain ⟨⟨v0, v1, zv⟩, hv⟩ : ∃ v, vals[k]? = some v := ⟨_, List.getElem?_eq_getElem (by rw [HL.out]; exact hlt)⟩
      have hd : vals.drop k = (v0, v1, zv) :: vals.drop (k + 1) := by rw [List.drop_eq_getElem_cons (List.getElem?_eq_some_iff.1 hv).1, (List.getElem?_eq_some_iff.1 hv).2]
      have hbw := HHB.out.trans (hb.mono HHB.out.size)
      obtain ⟨b, o, rfl, hb0, x0, x1, x2⟩ := (HR.out.below hbw).val hv
      have hT2 := HT.out
      have hF2 := HF.out
      rw [hd, List.any_cons] at hT2
      rw [hd, List.all_cons] at hF2
      have h1 := HC1.out (v0, v1, zv)
      have h2 := HC2.out (v0, v1, zv)
      obtain ⟨j1, hj1⟩ : ∃ j, cmpV (v0, v1, zv) (m0, m1, zm) = j := ⟨_, rfl⟩
      obtain ⟨j2, hj2⟩ : ∃ j, cmpV (v0, v1, zv) (n0, n1, zn) = j := ⟨_, rfl⟩
      rw [hj1] at h1 hT2 hF2
      rw [hj2] at h2 hT2 hF2
      have H1 := Lib.hid h1; have H2 := Lib.hid h2
      have kv := Blk.new wr 34 #[.int .i64 v0, .int .i64 v1, .string ⟨zv.toArray⟩]
      have hbv := hb.alloc hb.size (.cells #[.int .i64 v0, .int .i64 v1, .string ⟨zv.toArray⟩] 34)
      have HKV := Lib.hid kv; have HBV := Lib.hid hbv
      have HT2 := Lib.hid hT2; have HF2 := Lib.hid hF2
      have hSt : Below (wr.heap.size + 1) (wr.alloc (.cells #[.int .i64 v0, .int .i64 v1, .string ⟨zv.toArray⟩] 34)) (wr.alloc (.cells #[.int .i64 v0, .int .i64 v1, .string ⟨zv.toArray⟩] 34)) := Below.refl _ _
      have HST := Lib.hid hSt
      have HCELL := Lib.hid fun (W : World) (h : Below (wr.heap.size + 1) (wr.alloc (.cells #[.int .i64 v0, .int .i64 v1, .string ⟨zv.toArray⟩] 34)) W) => And.intro (blk3 (HKV.out.below h (by omega))) (blk8 (HK2.out.below (HBV.out.trans (h.mono (by have := hb.size; omega))) HK2.out.lt))
      have HBW := Lib.hid fun (W : World) (h : Below (wr.heap.size + 1) (wr.alloc (.cells #[.int .i64 v0, .int .i64 v1, .string ⟨zv.toArray⟩] 34)) W) => (HBV.out.trans (h.mono (by have := hb.size; omega)) : Below w0.heap.size w0 W)
      clear h1 h2 hj1 hj2 hd hv hbw hT2 hF2 HT HF kv hbv hSt hb
      have hq2 : (j2 == 0) = decide (j2 = 0) := by rw [Bool.eq_iff_iff]; simp
      have hcs : (tb = true ∨ (tb = false ∧ decide (0 ≤ j1) = false) ∨ (tb = false ∧ decide (0 ≤ j1) = true)) ∧ (fb = false ∨ (fb = true ∧ decide (j1 = 0) = false) ∨ (fb = true ∧ decide (j1 = 0) = true)) := by
        refine ⟨?_, ?_⟩
        · cases tb <;> cases decide (0 ≤ j1) <;> simp
        · cases fb <;> cases decide (j1 = 0) <;> simp
      obtain ⟨ha, hb9⟩ := hcs
      rcases ha with rfl | ⟨rfl, hge⟩ | ⟨rfl, hge⟩ <;> rcases hb9 with rfl | ⟨rfl, heq⟩ | ⟨rfl, heq⟩
      · obtain ⟨⟨s0, s1, s2⟩, ⟨y0, y1, y2, y3, y4, y5, y6, y7⟩⟩ := HCELL.out _ HST.out
        go_wp2_with fail
        go_round
        case rel => exact ⟨k + 1, _, _, by omega, rfl, rfl, by go_num, HBW.out _ HST.out, Lib.hid (by have := HT2.out; simpa  using this), Lib.hid (by have := HF2.out; simpa  using this)⟩
        case measure => simp [intOf]; omega
      · have qe : (j1 == 0) = false := by simpa using heq
        obtain ⟨⟨s0, s1, s2⟩, ⟨y0, y1, y2, y3, y4, y5, y6, y7⟩⟩ := HCELL.out _ HST.out
        go_wp2_with fail
        refine (H1.out _).mono ?_
        rintro e w1 ⟨rfl, hc⟩
        have G1 := Lib.hid (hc.mono (Nat.le_of_eq (World.size_alloc ..).symm))
        clear hc
        clear s0 s1 s2 y0 y1 y2 y3 y4 y5 y6 y7
        obtain ⟨⟨s0, s1, s2⟩, ⟨y0, y1, y2, y3, y4, y5, y6, y7⟩⟩ := HCELL.out _ G1.out
        go_wp2_with fail
        go_round
        case rel => exact ⟨k + 1, _, _, by omega, rfl, rfl, by go_num, HBW.out _ G1.out, Lib.hid (by have := HT2.out; simpa  using this), Lib.hid (by have := HF2.out; simpa [heq] using this)⟩
        case measure => simp [intOf]; omega
      · have qe : (j1 == 0) = true := by simpa using heq
        obtain ⟨⟨s0, s1, s2⟩, ⟨y0, y1, y2, y3, y4, y5, y6, y7⟩⟩ := HCELL.out _ HST.out
        go_wp2_with fail
        refine (H1.out _).mono ?_
        rintro e w1 ⟨rfl, hc⟩
        have G1 := Lib.hid (hc.mono (Nat.le_of_eq (World.size_alloc ..).symm))
        clear hc
        clear s0 s1 s2 y0 y1 y2 y3 y4 y5 y6 y7
        obtain ⟨⟨s0, s1, s2⟩, ⟨y0, y1, y2, y3, y4, y5, y6, y7⟩⟩ := HCELL.out _ G1.out
        go_wp2_with fail
        refine (H2.out _).mono ?_
        rintro e w2 ⟨rfl, hc⟩
        have G2 := Lib.hid (G1.out.trans (hc.mono (Nat.le_trans (Nat.le_of_eq (World.size_alloc ..).symm) G1.out.size)))
        clear hc
        clear s0 s1 s2 y0 y1 y2 y3 y4 y5 y6 y7
        obtain ⟨⟨s0, s1, s2⟩, ⟨y0, y1, y2, y3, y4, y5, y6, y7⟩⟩ := HCELL.out _ G2.out
        go_wp2_with fail
        go_round
        case rel => exact ⟨k + 1, _, _, by omega, rfl, rfl, by go_num, HBW.out _ G2.out, Lib.hid (by have := HT2.out; simpa  using this), Lib.hid (by have := HF2.out; simpa [heq] using this)⟩
        case measure => simp [intOf]; omega
      · obtain ⟨⟨s0, s1, s2⟩, ⟨y0, y1, y2, y3, y4, y5, y6, y7⟩⟩ := HCELL.out _ HST.out
        go_wp2_with fail
        refine (H1.out _).mono ?_
        rintro e w1 ⟨rfl, hc⟩
        have G1 := Lib.hid (hc.mono (Nat.le_of_eq (World.size_alloc ..).symm))
        clear hc
        clear s0 s1 s2 y0 y1 y2 y3 y4 y5 y6 y7
        obtain ⟨⟨s0, s1, s2⟩, ⟨y0, y1, y2, y3, y4, y5, y6, y7⟩⟩ := HCELL.out _ G1.out
        go_wp2_with fail
        go_round
        case rel => exact ⟨k + 1, _, _, by omega, rfl, rfl, by go_num, HBW.out _ G1.out, Lib.hid (by have := HT2.out; simpa [hge] using this), Lib.hid (by have := HF2.out; simpa  using this)⟩
        case measure => simp [intOf]; omega
      · have qe : (j1 == 0) = false := by simpa using heq
        obtain ⟨⟨s0, s1, s2⟩, ⟨y0, y1, y2, y3, y4, y5, y6, y7⟩⟩ := HCELL.out _ HST.out
        go_wp2_with fail
        refine (H1.out _).mono ?_
        rintro e w1 ⟨rfl, hc⟩
        have G1 := Lib.hid (hc.mono (Nat.le_of_eq (World.size_alloc ..).symm))
        clear hc
        clear s0 s1 s2 y0 y1 y2 y3 y4 y5 y6 y7
        obtain ⟨⟨s0, s1, s2⟩, ⟨y0, y1, y2, y3, y4, y5, y6, y7⟩⟩ := HCELL.out _ G1.out
        go_wp2_with fail
        refine (H1.out _).mono ?_
        rintro e w2 ⟨rfl, hc⟩
        have G2 := Lib.hid (G1.out.trans (hc.mono (Nat.le_trans (Nat.le_of_eq (World.size_alloc ..).symm) G1.out.size)))
        clear hc
        clear s0 s1 s2 y0 y1 y2 y3 y4 y5 y6 y7
        obtain ⟨⟨s0, s1, s2⟩, ⟨y0, y1, y2, y3, y4, y5, y6, y7⟩⟩ := HCELL.out _ G2.out
        go_wp2_with fail
        go_round
        case rel => exact ⟨k + 1, _, _, by omega, rfl, rfl, by go_num, HBW.out _ G2.out, Lib.hid (by have := HT2.out; simpa [hge] using this), Lib.hid (by have := HF2.out; simpa [heq] using this)⟩
        case measure => simp [intOf]; omega
      · have qe : (j1 == 0) = true := by simpa using heq
        obtain ⟨⟨s0, s1, s2⟩, ⟨y0, y1, y2, y3, y4, y5, y6, y7⟩⟩ := HCELL.out _ HST.out
        go_wp2_with fail
        refine (H1.out _).mono ?_
        rintro e w1 ⟨rfl, hc⟩
        have G1 := Lib.hid (hc.mono (Nat.le_of_eq (World.size_alloc ..).symm))
        clear hc
        clear s0 s1 s2 y0 y1 y2 y3 y4 y5 y6 y7
        obtain ⟨⟨s0, s1, s2⟩, ⟨y0, y1, y2, y3, y4, y5, y6, y7⟩⟩ := HCELL.out _ G1.out
        go_wp2_with fail
        refine (H1.out _).mono ?_
        rintro e w2 ⟨rfl, hc⟩
        have G2 := Lib.hid (G1.out.trans (hc.mono (Nat.le_trans (Nat.le_of_eq (World.size_alloc ..).symm) G1.out.size)))
        clear hc
        clear s0 s1 s2 y0 y1 y2 y3 y4 y5 y6 y7
        obtain ⟨⟨s0, s1, s2⟩, ⟨y0, y1, y2, y3, y4, y5, y6, y7⟩⟩ := HCELL.out _ G2.out
        go_wp2_with fail
        refine (H2.out _).mono ?_
        rintro e w3 ⟨rfl, hc⟩
        have G3 := Lib.hid (G2.out.trans (hc.mono (Nat.le_trans (Nat.le_of_eq (World.size_alloc ..).symm) G2.out.size)))
        clear hc
        clear s0 s1 s2 y0 y1 y2 y3 y4 y5 y6 y7
        obtain ⟨⟨s0, s1, s2⟩, ⟨y0, y1, y2, y3, y4, y5, y6, y7⟩⟩ := HCELL.out _ G3.out
        go_wp2_with fail
        go_round
        case rel => exact ⟨k + 1, _, _, by omega, rfl, rfl, by go_num, HBW.out _ G3.out, Lib.hid (by have := HT2.out; simpa [hge] using this), Lib.hid (by have := HF2.out; simpa [heq] using this)⟩
        case measure => simp [intOf]; omega
      · obtain ⟨⟨s0, s1, s2⟩, ⟨y0, y1, y2, y3, y4, y5, y6, y7⟩⟩ := HCELL.out _ HST.out
        go_wp2_with fail
        refine (H1.out _).mono ?_
        rintro e w1 ⟨rfl, hc⟩
        have G1 := Lib.hid (hc.mono (Nat.le_of_eq (World.size_alloc ..).symm))
        clear hc
        clear s0 s1 s2 y0 y1 y2 y3 y4 y5 y6 y7
        obtain ⟨⟨s0, s1, s2⟩, ⟨y0, y1, y2, y3, y4, y5, y6, y7⟩⟩ := HCELL.out _ G1.out
        go_wp2_with fail
        refine (H2.out _).mono ?_
        rintro e w2 ⟨rfl, hc⟩
        have G2 := Lib.hid (G1.out.trans (hc.mono (Nat.le_trans (Nat.le_of_eq (World.size_alloc ..).symm) G1.out.size)))
        clear hc
        clear s0 s1 s2 y0 y1 y2 y3 y4 y5 y6 y7
        obtain ⟨⟨s0, s1, s2⟩, ⟨y0, y1, y2, y3, y4, y5, y6, y7⟩⟩ := HCELL.out _ G2.out
        go_wp2_with fail
        go_round
        case rel => exact ⟨k + 1, _, _, by omega, rfl, rfl, by go_num, HBW.out _ G2.out, Lib.hid (by have := HT2.out; simpa [hge] using this), Lib.hid (by have := HF2.out; simpa  using this)⟩
        case measure => simp [intOf]; omega
      · have qe : (j1 == 0) = false := by simpa using heq
        obtain ⟨⟨s0, s1, s2⟩, ⟨y0, y1, y2, y3, y4, y5, y6, y7⟩⟩ := HCELL.out _ HST.out
        go_wp2_with fail
        refine (H1.out _).mono ?_
        rintro e w1 ⟨rfl, hc⟩
        have G1 := Lib.hid (hc.mono (Nat.le_of_eq (World.size_alloc ..).symm))
        clear hc
        clear s0 s1 s2 y0 y1 y2 y3 y4 y5 y6 y7
        obtain ⟨⟨s0, s1, s2⟩, ⟨y0, y1, y2, y3, y4, y5, y6, y7⟩⟩ := HCELL.out _ G1.out
        go_wp2_with fail
        refine (H2.out _).mono ?_
        rintro e w2 ⟨rfl, hc⟩
        have G2 := Lib.hid (G1.out.trans (hc.mono (Nat.le_trans (Nat.le_of_eq (World.size_alloc ..).symm) G1.out.size)))
        clear hc
        clear s0 s1 s2 y0 y1 y2 y3 y4 y5 y6 y7
        obtain ⟨⟨s0, s1, s2⟩, ⟨y0, y1, y2, y3, y4, y5, y6, y7⟩⟩ := HCELL.out _ G2.out
        go_wp2_with fail
        refine (H1.out _).mono ?_
        rintro e w3 ⟨rfl, hc⟩
        have G3 := Lib.hid (G2.out.trans (hc.mono (Nat.le_trans (Nat.le_of_eq (World.size_alloc ..).symm) G2.out.size)))
        clear hc
        clear s0 s1 s2 y0 y1 y2 y3 y4 y5 y6 y7
        obtain ⟨⟨s0, s1, s2⟩, ⟨y0, y1, y2, y3, y4, y5, y6, y7⟩⟩ := HCELL.out _ G3.out
        go_wp2_with fail
        go_round
        case rel => exact ⟨k + 1, _, _, by omega, rfl, rfl, by go_num, HBW.out _ G3.out, Lib.hid (by have := HT2.out; simpa [hge] using this), Lib.hid (by have := HF2.out; simpa [heq] using this)⟩
        case measure => simp [intOf]; omega
      · have qe : (j1 == 0) = true := by simpa using heq
        obtain ⟨⟨s0, s1, s2⟩, ⟨y0, y1, y2, y3, y4, y5, y6, y7⟩⟩ := HCELL.out _ HST.out
        go_wp2_with fail
        refine (H1.out _).mono ?_
        rintro e w1 ⟨rfl, hc⟩
        have G1 := Lib.hid (hc.mono (Nat.le_of_eq (World.size_alloc ..).symm))
        clear hc
        clear s0 s1 s2 y0 y1 y2 y3 y4 y5 y6 y7
        obtain ⟨⟨s0, s1, s2⟩, ⟨y0, y1, y2, y3, y4, y5, y6, y7⟩⟩ := HCELL.out _ G1.out
        go_wp2_with fail
        refine (H2.out _).mono ?_
        rintro e w2 ⟨rfl, hc⟩
        have G2 := Lib.hid (G1.out.trans (hc.mono (Nat.le_trans (Nat.le_of_eq (World.size_alloc ..).symm) G1.out.size)))
        clear hc
        clear s0 s1 s2 y0 y1 y2 y3 y4 y5 y6 y7
        obtain ⟨⟨s0, s1, s2⟩, ⟨y0, y1, y2, y3, y4, y5, y6, y7⟩⟩ := HCELL.out _ G2.out
        go_wp2_with fail
        refine (H1.out _).mono ?_
        rintro e w3 ⟨rfl, hc⟩
        have G3 := Lib.hid (G2.out.trans (hc.mono (Nat.le_trans (Nat.le_of_eq (World.size_alloc ..).symm) G2.out.size)))
        clear hc
        clear s0 s1 s2 y0 y1 y2 y3 y4 y5 y6 y7
        obtain ⟨⟨s0, s1, s2⟩, ⟨y0, y1, y2, y3, y4, y5, y6, y7⟩⟩ := HCELL.out _ G3.out
        go_wp2_with fail
        refine (H2.out _).mono ?_
        rintro e w4 ⟨rfl, hc⟩
        have G4 := Lib.hid (G3.out.trans (hc.mono (Nat.le_trans (Nat.le_of_eq (World.size_alloc ..).symm) G3.out.size)))
        clear hc
        clear s0 s1 s2 y0 y1 y2 y3 y4 y5 y6 y7
        obtain ⟨⟨s0, s1, s2⟩, ⟨y0, y1, y2, y3, y4, y5, y6, y7⟩⟩ := HCELL.out _ G4.out
        go_wp2_with fail
        go_round
        case rel => exact ⟨k + 1, _, _, by omega, rfl, rfl, by go_num, HBW.out _ G4.out, Lib.hid (by have := HT2.out; simpa [hge] using this), Lib.hid (by have := HF2.out; simpa [heq] using this)⟩
        case measure => simp [intOf]; omega
    · obtain rfl : k = m := by omega
      have hT2 := HT.out
      have hF2 := HF.out
      rw [List.drop_eq_nil_of_le (by rw [HL.out]; exact Nat.le_refl _)] at hT2 hF2
      obtain rfl : tb = T := by simpa using hT2
      obtain rfl : fb = F := by simpa using hF2
      have HBB := Lib.hid (HHB.out.trans (hb.mono HHB.out.size))
      clear hT2 hF2 HT HF hb
      go_wp2_with fail
      go_ret2
      exact ⟨by first | rfl | simp, HBB.out⟩
end
end Go.Proofs.YtobophhlcekngaaDoor
