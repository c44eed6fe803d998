/- The walk of the statement TreeRoots where there is no such leaf. No condition. -/
import Derived.Test.YtkopoepoinkpeaaDoorTrRootsA
namespace Go.Proofs.YtkopoepoinkpeaaDoor
open Go.RowKit
set_option linter.unusedVariables false
set_option linter.unusedSimpArgs false
set_option maxRecDepth 100000

set_option maxHeartbeats 8000000 in
theorem rootsT19_out (A : Option Addr) (n c : Nat) (ls : List (List Nat)) (i m : Int) (w : World) (hn : ls.length = n) (hp : LC w A ls) (hbt : ∀ l ∈ ls, ∀ b ∈ l, b < 256) (hc : n ≤ c) (ht : ShTab w) (hgr : grL ls 30 60 = false) (hm0 : -9223372036854775808 ≤ m) (hm1 : m ≤ 1099511627776) (ho : i < 0 ∨ (n : Int) ≤ i) :
    Calls Tryd.prog 3 #[.slice A n c, .int .i64 i, .int .i64 m] w fun e w' => e = .returned (.bool true) ∧ Below w.heap.size w w' := by
  obtain ⟨g, hg⟩ : ∃ g, g = grL ls 30 60 := ⟨_, rfl⟩
  have hgf : g = false := hg.trans hgr
  subst hgf
  have HG := Lib.hid (greatL_any A n c 30 60 ls w hn hp (by omega) (by omega) false hg)
  obtain ⟨h30, h60⟩ := grL_false hgr
  rw [hn] at h30
  have HR := Lib.hid fun W (hb : Below w.heap.size w W) => root_any A n c ls W hn (by omega) (hp.next hb) hbt (fun l hl => by have := h60 l hl; omega) (ht.next hb)
  have HRR := Lib.hid fun W (hb : Below w.heap.size w W) => refRoot_any n ls A c W hn (by omega) (hp.next hb) hbt (fun l hl => by have := h60 l hl; omega) hc
  obtain ⟨V, hV, hvz, hon, hvi⟩ := hash_ok (rootL ls) (rootL_len ls)
  unfold HashTo at HR HRR
  rw [hV] at HR HRR
  have HNE : Hid (∀ W, (binOp .neq 31 (.agg V) (.agg V)).run Tryd.prog W = .ok (.bool false) W) := Lib.hid fun W => by
    have := neqD W (rootL ls) (rootL ls) (rootL_len _) (rootL_len _)
    rw [hV] at this
    simpa using this
  have HS := Lib.hid fun W => split_any m W (by omega) (by omega)
  have HRS := Lib.hid fun W => refSplit_any m W (by omega) (by omega)
  have HD := Lib.hid fun W => depth_any i m W (by omega) (by omega)
  have HRD := Lib.hid fun W => refDepth_any i m W (by omega) (by omega)
  obtain ⟨dd, hdd⟩ : ∃ dd, depI i m = dd := ⟨_, rfl⟩
  obtain ⟨ss, hss⟩ : ∃ ss, (spl m.toNat : Int) = ss := ⟨_, rfl⟩
  simp only [hdd] at HD HRD
  simp only [hss] at HS HRS
  have HP := Lib.hid hp; have HBT := Lib.hid hbt; have HN := Lib.hid hn; have HT := Lib.hid ht; have H60 := Lib.hid h60
  have HPA := Lib.hid (path_out A n c i w (by omega) ho)
  have hin : (decide (i ≥ 0) && decide (i < (n : Int))) = false := by
    rcases ho with h | h
    · rw [decide_eq_false (by omega), Bool.false_and]
    · rw [decide_eq_false (p := i < (n : Int)) (by omega), Bool.and_false]
  have hm2 : ¬ 1099511627776 < m := by omega
  clear hg hgr hp hbt hn ht h60 hV hvz hon hvi hdd hss
  have hcase : i < 0 ∨ (0 ≤ i ∧ ¬ i < (n : Int)) := by omega
  clear ho hin
  rcases hcase with hI | ⟨hI, hI2⟩
  all_goals
    go_enter Tryd.func3, Tryd.ntmps3
    go_wp2_with (first
    | (go_at_call 7; refine HG.out.mono ?_; rintro _ _ ⟨rfl, rfl⟩)
    | (go_at_call 9
       refine HPA.out.mono ?_
       rintro _ w2 ⟨rfl, B2⟩)
    | (go_at_call 12
       refine (HR.out _ B2).mono ?_
       rintro _ w5 ⟨rfl, hb5⟩
       have B5 := B2.trans (hb5.mono B2.size)
       clear hb5)
    | (go_at_call 13
       refine (HRR.out _ B5).mono ?_
       rintro _ w6 ⟨rfl, hb6⟩
       have B6 := B5.trans (hb6.mono B5.size)
       clear hb6)
    | (refine wpList_binw (by rfl) .neq 31 _ (.tmp 56) (.tmp 58) rfl V V rfl rfl hash_guard _ HNE.out ?_)
    | (go_at_call 14; refine (HS.out _).mono ?_; rintro _ _ ⟨rfl, rfl⟩)
    | (go_at_call 15; refine (HRS.out _).mono ?_; rintro _ _ ⟨rfl, rfl⟩)
    | (go_at_call 16; refine (HD.out _).mono ?_; rintro _ _ ⟨rfl, rfl⟩)
    | (go_at_call 17; refine (HRD.out _).mono ?_; rintro _ _ ⟨rfl, rfl⟩))
    have HAY := Lib.hid (awake19_yields w6 (HT.out.next B6))
    by_cases h2 : n < 2
    · have h2' : (n : Int) < 2 := by omega
      refine wp_region_quiet_below (by kernel_rfl) (by kernel_rfl) ?_
      repeat (go_big_quiet_step (first | (go_at_call 8; with_reducible exact HAY.out.quiet _ _)))
      refine wpQuiet_nil ?_
      intro _ hw'
      obtain ⟨p, hw''⟩ := hw'
      subst hw''
      go_wp2_with fail
      go_ret
      exact ⟨rfl, B6.trans ((below_regrown w6 p.d p.os).mono B6.size)⟩
    · have h2' : ¬ (n : Int) < 2 := by omega
      obtain ⟨l0, hl0⟩ : ∃ l, ls[0]? = some l := ⟨_, List.getElem?_eq_getElem (by rw [HN.out]; omega)⟩
      obtain ⟨l1, hl1⟩ : ∃ l, ls[1]? = some l := ⟨_, List.getElem?_eq_getElem (by rw [HN.out]; omega)⟩
      have hp6 := HP.out.next B6
      obtain ⟨b, o, rfl, _⟩ := hp6.plain (by rw [HN.out]; omega)
      obtain ⟨ad0, u0, e0, hc0, A0, c0, rfl, hcp0, hr0⟩ := hp6.at_ hl0
      obtain ⟨ad1, u1, e1, hc1, A1, c1, rfl, hcp1, hr1⟩ := hp6.at_ hl1
      injection e0 with e0; subst e0
      injection e1 with e1; subst e1
      rw [plain_add] at hc0 hc1
      have x0 : w6.cell? ⟨b, o, none⟩ = some (.slice A0 l0.length c0) := hc0
      have y0 := cell_regrown x0
      have x1 : w6.cell? ⟨b, o + 1, none⟩ = some (.slice A1 l1.length c1) := hc1
      have y1 := cell_regrown x1
      have hm0 := List.mem_of_getElem? hl0
      have hm1 := List.mem_of_getElem? hl1
      obtain ⟨V0, hV0⟩ : ∃ V0, (bs (leafD l0)).toArray = V0 := ⟨_, rfl⟩
      obtain ⟨V1, hV1⟩ : ∃ V1, (bs (leafD l1)).toArray = V1 := ⟨_, rfl⟩
      obtain ⟨V2, hV2⟩ : ∃ V2, (bs (nodeD (leafD l0) (leafD l1))).toArray = V2 := ⟨_, rfl⟩
      have Y1 := Lib.hid (leaf_yields A0 l0.length c0 l0 w6 hr0 (HBT.out l0 hm0) hcp0 (by have := H60.out l0 hm0; omega) (HT.out.next B6) V0 hV0)
      have Y2 := Lib.hid (leaf_yields A1 l1.length c1 l1 w6 hr1 (HBT.out l1 hm1) hcp1 (by have := H60.out l1 hm1; omega) (HT.out.next B6) V1 hV1)
      have Y3 := Lib.hid (node_yields (leafD l0) (leafD l1) w6 (leafD_len _) (leafD_len _) (shaN_lt _) (shaN_lt _) (HT.out.next B6) V0 V1 V2 hV0 hV1 hV2)
      have Y4 := Lib.hid (refLeaf_yields A0 l0.length c0 l0 w6 hr0 (HBT.out l0 hm0) hcp0 (by have := H60.out l0 hm0; omega) V0 hV0)
      have Y5 := Lib.hid (refLeaf_yields A1 l1.length c1 l1 w6 hr1 (HBT.out l1 hm1) hcp1 (by have := H60.out l1 hm1; omega) V1 hV1)
      have Y6 := Lib.hid (refNode_yields (leafD l0) (leafD l1) w6 (leafD_len _) (leafD_len _) (shaN_lt _) (shaN_lt _) V0 V1 V2 hV0 hV1 hV2)
      have HE : Hid (∀ W, (binOp .eql 31 (.agg V2) (.agg V2)).run Tryd.prog W = .ok (.bool true) W) := Lib.hid fun W => by
        have := eqlD W (nodeD (leafD l0) (leafD l1)) (nodeD (leafD l0) (leafD l1)) (nodeD_len _ _) (nodeD_len _ _)
        rw [hV2] at this
        simpa using this
      have g0 : (0 : Int) < (n : Int) := by omega
      have g1 : (1 : Int) < (n : Int) := by omega
      clear hV0 hV1 hV2 hc0 hc1 hr0 hr1 hp6 hl0 hl1 hm0 hm1 hcp0 hcp1
      refine wp_region_quiet_below (by kernel_rfl) (by kernel_rfl) ?_
      repeat (first
        | (refine wpQuiet_bin (by rfl) .eql 31 _ (.tmp 89) (.tmp 98) rfl V2 V2 rfl rfl hash_guard _ HE.out ?_
           try simp only [Act.put, List.setIfInBounds_toArray, List.set_cons_zero, List.set_cons_succ])
        | go_big_quiet_step (first
            | (go_at_call 19; first | with_reducible exact Y1.out.quiet _ _ | with_reducible exact Y2.out.quiet _ _)
            | (go_at_call 18; with_reducible exact Y3.out.quiet _ _)
            | (go_at_call 21; first | with_reducible exact Y4.out.quiet _ _ | with_reducible exact Y5.out.quiet _ _)
            | (go_at_call 20; with_reducible exact Y6.out.quiet _ _)
            | (go_at_call 8; with_reducible exact HAY.out.quiet _ _)))
      refine wpQuiet_nil ?_
      intro _ hw'
      obtain ⟨p, hw''⟩ := hw'
      subst hw''
      go_wp2_with fail
      go_ret
      exact ⟨rfl, B6.trans ((below_regrown w6 p.d p.os).mono B6.size)⟩
end Go.Proofs.YtkopoepoinkpeaaDoor
