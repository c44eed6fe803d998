/- Contract of package tree's rootOf: the root of at least one digest. No condition. -/
import Derived.Deep.RegionLaw
import Derived.Deep.RegionWith
import Derived.Deep.DeepCutAuto
import Derived.Deep.CutBlock
import Derived.Deep.DrawnRows
import Derived.Test.YtfpbijnlmlaloaaDoorJ13
import Derived.Test.YtfpbijnlmlaloaaDoorJ26
import Derived.Test.YtfpbijnlmlaloaaDoorJ27
namespace Go.Proofs.YtfpbijnlmlaloaaDoor
open Go.RowKit
set_option linter.unusedVariables false
set_option linter.unusedSimpArgs false
set_option maxRecDepth 100000
attribute [local go_sem ↓] Go.wp_at_zero Go.wp_at_succ

/-- A digest as a value, by a name. -/
theorem hash_ok (d : List Nat) (h : d.length = 32) : ∃ V : Array Value, (bs d).toArray = V ∧ V.size = 32 ∧ V.all (·.oneCell') = true ∧ (Tryd.prog.info? 33).map (·.size) = some V.size :=
  ⟨_, rfl, by simp [bs_length, h], all_oneCell_toArray (bs_one d), by rw [List.size_toArray]; exact hash_size d h⟩
theorem z32_size : (Array.replicate 32 (Value.int .u8 0)).size = 32 := by simp
theorem Blk.range {w : World} {g : Nat} {t : TypeId} {l : List Value} (h : Blk w g t l.toArray) : w.rangeAt g 0 l := fun j v hv => by
  rw [Nat.zero_add, h.cell]
  simpa using hv
theorem Drawn.belowW {w w' : World} (h : Drawn w w') : Below w.heap.size w w' := h.below (Below.refl _ _)
set_option maxHeartbeats 2000000 in
theorem rootOf_any : ∀ (N : Nat) (ds : List (List Nat)) (b o c : Nat) (w : World), ds.length = N → 1 ≤ N → N ≤ 1000000 → Dg ds → HsAt w (some ⟨b, o, none⟩) ds → N ≤ c → ShTab w →
    Calls Tryd.prog 24 #[.slice (some ⟨b, o, none⟩) N c] w (HashTo w w.heap.size (rootD ds)) := by
  intro N
  induction N using Nat.strongRecOn with
  | _ N ih =>
    intro ds b o c w hN h1 hmax hd hat hc ht
    have hz := (zero_of_info info_hash).1
    have hsz := Lib.hid (zero_of_info info_hash).2
    have hR1 := Blk.new w 33 (Array.replicate 32 (.int .u8 0))
    have hb1 : Below w.heap.size w (w.alloc (.cells (Array.replicate 32 (.int .u8 0)) 33)) := (Below.refl _ _).alloc (Nat.le_refl _) _
    obtain ⟨w1, hw1⟩ : ∃ w1 : World, w.alloc (.cells (Array.replicate 32 (.int .u8 0)) 33) = w1 := ⟨_, rfl⟩
    have hs1 : w1.heap.size = w.heap.size + 1 := by rw [← hw1]; simp
    rw [hw1] at hR1 hb1
    have HRES := Lib.hid hR1; have HB1 := Lib.hid hb1; have HS1 := Lib.hid hs1; have HD := Lib.hid hd; have HAT := Lib.hid (hat.next hb1); have HN := Lib.hid hN; have HT := Lib.hid (ht.next hb1)
    have HIH := Lib.hid ih
    clear hR1 hb1 hs1 hd hat hN ht ih
    by_cases h2 : N = 1
    · subst h2
      obtain ⟨d, rfl⟩ : ∃ d, ds = [d] := by
        match ds, HN.out with
        | [d], _ => exact ⟨d, rfl⟩
      rw [rootD_one]
      have hd32 := (HD.out d (by simp)).1
      obtain ⟨b', o', hA, _, hr⟩ := HAT.out.at_ HD.out (k := 0) (d := d) rfl
      injection hA with hA
      injection hA with hA1 hA2
      subst hA1 hA2
      rw [Nat.zero_mul, Nat.add_zero] at hr
      have HR := Lib.hid hr
      have HI := Lib.hid (hash_size d hd32)
      unfold HashTo
      obtain ⟨V, hV, hvz, hon, hvi⟩ := hash_ok d hd32
      rw [hV]
      have HV := Lib.hid hV; have HON := Lib.hid hon; have HVZ := Lib.hid hvz; have HVI := Lib.hid hvi
      clear hV hr hon hvz hd32 hvi
      go_enter Tryd.func24, Tryd.ntmps24
      go_wp2_with (first
        | refine wpQ_load (by rfl) 33 (.tmp 10) rfl b o rfl (bs d) V HV.out _ HR.out Tryd.underlying33 rfl HI.out ?_
        | (refine wpList_store_row (by rfl) (.tmp 2) (.tmp 11) (by rfl) (by rfl) (by rfl) HRES.out HVI.out (by rw [HVZ.out]; simp) HON.out ?_))
      refine bodyPost_ret (v := .agg V) (results_cell_row rfl _ _ _ _ _ _ _ (by rfl) (HRES.out.row V) Tryd.underlying33 rfl HVI.out) rfl ⟨rfl, Below.row HB1.out (Nat.le_refl _) _⟩
    · have h3 : 2 ≤ N := by omega
      have hk1 := spl_lt h3
      have hk2 := spl_pos h3
      have hrd := rootD_two (l := ds) (by rw [HN.out]; exact h3)
      rw [HN.out] at hrd
      rw [hrd]
      have HH := Lib.hid (halves_any b o N c w1 h3 hc hmax)
      have hl1 : HsAt w1 (some ⟨b, o, none⟩) (ds.take (spl N)) := HAT.out.fore HD.out (by rw [HN.out]; omega)
      have hl2 : HsAt w1 (some ⟨b, o + spl N * 32, none⟩) (ds.drop (spl N)) := by
        have := HAT.out.cut HD.out (k := spl N) (cap := N + 1) (by rw [HN.out]; omega) (by rw [HN.out]; omega)
        rw [if_neg (by omega)] at this
        simpa [plain_add] using this
      have hn1 : (ds.take (spl N)).length = spl N := by rw [List.length_take, HN.out]; omega
      have hn2 : (ds.drop (spl N)).length = N - spl N := by rw [List.length_drop, HN.out]
      have HD1 := Lib.hid (HD.out.take (spl N)); have HD2 := Lib.hid (HD.out.drop (spl N))
      obtain ⟨k, hk⟩ : ∃ k, spl N = k := ⟨_, rfl⟩
      rw [hk] at hk1 hk2 HH hl1 hl2 hn1 hn2 HD1 HD2 ⊢
      obtain ⟨l1, e1⟩ : ∃ l1, ds.take k = l1 := ⟨_, rfl⟩
      obtain ⟨l2, e2⟩ : ∃ l2, ds.drop k = l2 := ⟨_, rfl⟩
      rw [e1] at hl1 hn1 HD1 ⊢
      rw [e2] at hl2 hn2 HD2 ⊢
      have HL1 := Lib.hid hl1; have HL2 := Lib.hid hl2; have HN1 := Lib.hid hn1; have HN2 := Lib.hid hn2
      clear hrd hl1 hl2 hn1 hn2 hk e1 e2
      go_enter Tryd.func24, Tryd.ntmps24
      go_wp2_with fail
      refine HH.out.mono ?_
      rintro _ w2 ⟨rfl, hw2⟩
      have HB2 := Lib.hid (HB1.out.trans (hw2.belowW.mono HB1.out.size))
      have HB12 := Lib.hid hw2.belowW
      have HC1 := Lib.hid (HIH.out k hk1 l1 b o k w2 HN1.out hk2 (by omega) HD1.out (HL1.out.next hw2.belowW) (Nat.le_refl _) (HT.out.next hw2.belowW))
      clear hw2
      go_wp2_with fail
      refine HC1.out.mono ?_
      rintro _ w3 ⟨rfl, hb3⟩
      have hlt1 : w.heap.size < w3.heap.size := by have := HS1.out; have := HB12.out.size; have := hb3.size; omega
      have HB13 := Lib.hid (HB12.out.trans (hb3.mono HB12.out.size))
      obtain ⟨VA, hVA, hvz, hon, hvi⟩ := hash_ok (rootD l1) (rootD_len (by rw [HN1.out]; exact hk2) fun d hd => (HD1.out d hd).1)
      rw [hVA]
      have k3 := Blk.new w3 33 (Array.replicate 32 (.int .u8 0))
      have k4 := k3.row VA
      have b4 := Below.row ((Below.refl w3.heap.size w3).alloc (Nat.le_refl _) (.cells (Array.replicate 32 (.int .u8 0)) 33)) (Nat.le_refl _) VA
      have HK3 := Lib.hid k3
      have hs4 : ((w3.alloc (.cells (Array.replicate 32 (.int .u8 0)) 33)).setRow w3.heap.size VA).heap.size = w3.heap.size + 1 := by rw [setRow_size]; simp
      have HVA := Lib.hid hVA; have HVZ := Lib.hid hvz; have HON := Lib.hid hon; have HVI := Lib.hid hvi
      clear hVA hvz hon hvi k3 hb3
      go_wp2_with (refine wpList_store_row (by rfl) (.tmp 5) (.tmp 18) (by rfl) (by rfl) (by rfl) HK3.out HVI.out (by rw [HVZ.out]; simp) HON.out ?_)
      have K4R := (HRES.out.below HB13.out (by rw [HS1.out]; omega)).below b4 hlt1
      have B14 := HB13.out.trans (b4.mono HB13.out.size)
      obtain ⟨W4, hW4⟩ : ∃ W4, (w3.alloc (.cells (Array.replicate 32 (.int .u8 0)) 33)).setRow w3.heap.size VA = W4 := ⟨_, rfl⟩
      rw [hW4] at k4 hs4 K4R B14 ⊢
      clear hW4 b4
      obtain ⟨q, hq⟩ : ∃ q, decide (l1 = l2) = q := ⟨_, rfl⟩
      have HE := Lib.hid (equal_any (some ⟨b, o, none⟩) (some ⟨b, o + k * 32, none⟩) k (N - k) k (N - k) l1 l2 W4 (HL1.out.next B14) (HL2.out.next B14) HD1.out HD2.out HN1.out HN2.out (by omega))
      rw [hq] at HE
      have HQ := Lib.hid hq
      have HK4 := Lib.hid k4; have HK4R := Lib.hid K4R; have HB14 := Lib.hid B14; have HS4 := Lib.hid hs4
      clear hq k4 K4R B14 hs4
      refine HE.out.mono ?_
      rintro _ w5 ⟨rfl, hb5⟩
      have HK5 := Lib.hid (HK4.out.below hb5 HK4.out.lt); have HK5R := Lib.hid (HK4R.out.below hb5 HK4R.out.lt)
      have HB15 := Lib.hid (HB14.out.trans (hb5.mono HB14.out.size))
      have hs5 : w3.heap.size < w5.heap.size := HK5.out.lt
      have HR5 := Lib.hid (show w5.rangeAt w3.heap.size 0 (bs (rootD l1)) from by have := HK5.out; rw [← HVA.out] at this; exact this.range)
      have h32 := rootD_len (l := l1) (by rw [HN1.out]; exact hk2) fun d hd => (HD1.out d hd).1
      have h32' := rootD_len (l := l2) (by rw [HN2.out]; omega) fun d hd => (HD2.out d hd).1
      have HI := Lib.hid (hash_size (rootD l1) h32)
      have HBY := Lib.hid (rootD_byte (l := l1) (by rw [HN1.out]; exact hk2) fun d hd => (HD1.out d hd).2)
      have HBY' := Lib.hid (rootD_byte (l := l2) (by rw [HN2.out]; omega) fun d hd => (HD2.out d hd).2)
      obtain ⟨V, hV, hvz, hon, hvi⟩ := hash_ok (nodeD (rootD l1) (rootD l2)) (nodeD_len _ _)
      have HV := Lib.hid hV; have HVZ' := Lib.hid hvz; have HON' := Lib.hid hon; have HVI' := Lib.hid hvi
      clear hV hvz hon hvi hb5
      cases q with
      | true =>
        have HNODE := Lib.hid (node_any (rootD l1) (rootD l1) w5 h32 h32 HBY.out HBY.out (HT.out.next HB15.out))
        rw [HVA.out] at HNODE
        go_wp2_with (first
          | refine wpQ_load (by rfl) 33 (.tmp 5) rfl w3.heap.size 0 rfl (bs (rootD l1)) VA HVA.out _ HR5.out Tryd.underlying33 rfl HI.out ?_)
        refine HNODE.out.mono ?_
        rintro _ w6 ⟨rfl, hb6⟩
        have hl12 : rootD l1 = rootD l2 := by rw [of_decide_eq_true HQ.out]
        have e1 : (bs (nodeD (rootD l1) (rootD l1))).toArray = V := by rw [← HV.out, ← hl12]
        rw [e1]
        have HK6 := Lib.hid (HK5R.out.below hb6 HK5R.out.lt)
        have HB6 := Lib.hid (HB1.out.trans ((HB15.out.trans (hb6.mono HB15.out.size)).mono (by rw [HS1.out]; omega)))
        clear e1 hl12 hb6
        go_wp2_with (refine wpList_store_row (by rfl) (.tmp 2) (.tmp 24) (by rfl) (by rfl) (by rfl) HK6.out HVI'.out (by rw [HVZ'.out]; simp) HON'.out ?_)
        refine bodyPost_ret (v := .agg V) (results_cell_row rfl _ _ _ _ _ _ _ (by rfl) (HK6.out.row V) Tryd.underlying33 rfl HVI'.out) rfl ⟨by rw [HV.out], Below.row HB6.out (Nat.le_refl _) _⟩
      | false =>
        have HC2 := Lib.hid fun (W : World) (hW : Below w5.heap.size w5 W) => HIH.out (N - k) (by omega) l2 b (o + k * 32) (N - k) W HN2.out (by omega) (by omega) HD2.out (HL2.out.next (HB15.out.trans (hW.mono HB15.out.size))) (Nat.le_refl _) (HT.out.next (HB15.out.trans (hW.mono HB15.out.size)))
        have HNODE := Lib.hid fun (W : World) (hW : Below w5.heap.size w5 W) => node_any (rootD l1) (rootD l2) W h32 h32' HBY.out HBY'.out (HT.out.next (HB15.out.trans (hW.mono HB15.out.size)))
        obtain ⟨VB, hVB⟩ : ∃ VB, (bs (rootD l2)).toArray = VB := ⟨_, rfl⟩
        have HND : Hid (∀ (W : World), Below w5.heap.size w5 W → Calls Tryd.prog 29 #[.agg VA, .agg VB] W fun e w' => e = .returned (.agg V) ∧ Below W.heap.size W w') := Lib.hid fun W hW => by
          have := HNODE.out W hW
          rw [HVA.out, hVB] at this
          exact this.mono fun e w' h => ⟨by rw [← HV.out]; exact h.1, h.2⟩
        have HC2' : Hid (∀ (W : World), Below w5.heap.size w5 W → Calls Tryd.prog 24 #[.slice (some ⟨b, o + k * 32, none⟩) (N - k) (N - k)] W fun e w' => e = .returned (.agg VB) ∧ Below W.heap.size W w') := Lib.hid fun W hW => by
          have := HC2.out W hW
          unfold HashTo at this
          rw [hVB] at this
          exact this
        clear HC2 HNODE hVB
        go_upto_region 7 with fail
        have HB := Below.refl w5.heap.size w5
        refine wp_region_noPanic ?_
        refine wp_region_held_drew (S := fun w' => w'.rangeAt w3.heap.size 0 (bs (rootD l1))) (by kernel_rfl) (by rw [World.rangeAt_drew]; exact HR5.out) (fun hHeld => ?_)
        refine wpAnyH_take (i := 0) (v := .agg VA) rfl (by kernel_rfl) (by kernel_rfl) (by kernel_rfl) (fun _ _ _ => np) (by rw [← HVA.out]; exact yieldsIf_load_mid (by rfl) _ (.tmp 5) rfl w3.heap.size 0 rfl (bs (rootD l1)) _ (fun w' hS => hS) Tryd.underlying33 rfl HI.out) (by assumption) ?_
        try simp only [Act.put, List.setIfInBounds_toArray, List.set_cons_zero, List.set_cons_succ]
        refine wpAnyH_take (i := 1) (v := ?_) rfl (by kernel_rfl) (by kernel_rfl) (by kernel_rfl) (fun _ _ _ => np) (Or.inl ⟨by rfl, ?_⟩) (by assumption) ?_
        rotate_left
        · (intro _ hSw; (try dsimp only at hSw); clear hSw; go_simp; try with_reducible rfl)
        try simp only [Act.put, List.setIfInBounds_toArray, List.set_cons_zero, List.set_cons_succ]
        refine wpAnyH_ready (rs := [2]) (by kernel_rfl) (by simp) ?_
        refine AllReadyH.cons rfl (fun K hK => ?_) AllReadyH.nil
        go_simp
        go_at_call 24
        have HB := Below.drew HB
        refine (HC2'.out _ HB).mono ?_
        rintro _ w6 ⟨rfl, hb6⟩
        have HB6 := HB.trans (hb6.mono HB.size)
        go_wp2_with fail
        refine hK.out _ _ (fun j v hv => (HB6.cell (p := ⟨w3.heap.size, 0 + j, none⟩) hs5).trans (HR5.out j v hv)) (fun hHeld => ?_)
        clear hK K
        try simp only [Act.put, List.setIfInBounds_toArray, List.set_cons_zero, List.set_cons_succ]
        refine wpAnyH_ready (rs := [3]) (by kernel_rfl) (by simp) ?_
        refine AllReadyH.cons rfl (fun K hK => ?_) AllReadyH.nil
        go_simp
        go_at_call 29
        refine (HND.out _ HB6).mono ?_
        rintro _ w7 ⟨rfl, hb7⟩
        have HB7 := HB6.trans (hb7.mono HB6.size)
        go_wp2_with fail
        refine hK.out _ _ (fun j v hv => (HB7.cell (p := ⟨w3.heap.size, 0 + j, none⟩) hs5).trans (HR5.out j v hv)) (fun hHeld => ?_)
        clear hK K
        try simp only [Act.put, List.setIfInBounds_toArray, List.set_cons_zero, List.set_cons_succ]
        have K7 := HK5R.out.below HB7 HK5R.out.lt
        have hst := run_storeCells_row (P := Tryd.prog) K7 (cs' := V) HVI'.out (by rw [HVZ'.out]; simp) HON'.out
        have hvv := HVZ'.out
        refine wpAnyH_ready (rs := [4]) (by kernel_rfl) (by simp) ?_
        refine AllReadyH.cons rfl (fun K hK => ?_) AllReadyH.nil
        go_simp
        refine hK.out _ _ (fun j v hv => (World.cell?_of_block (a := ⟨w3.heap.size, 0 + j, none⟩) (setRow_other w7 w.heap.size w3.heap.size V (by omega))).trans ((HB7.cell (p := ⟨w3.heap.size, 0 + j, none⟩) hs5).trans (HR5.out j v hv))) (fun hHeld => ?_)
        clear hK K
        try simp only [Act.put, List.setIfInBounds_toArray, List.set_cons_zero, List.set_cons_succ]
        refine wpAnyH_done (by kernel_rfl) ?_ _
        refine NoPanic.normal ?_
        have KK := Lib.hid (K7.row V)
        have BB := Lib.hid (Below.row (HB1.out.trans ((HB15.out.trans (HB7.mono HB15.out.size)).mono (by rw [HS1.out]; omega))) (Nat.le_refl w.heap.size) V)
        clear hst K7 hHeld HB HB6 HB7 hb6 hb7
        go_wp2_with fail
        exact bodyPost_ret (v := .agg V) (results_cell_row rfl _ _ _ _ _ _ _ (by rfl) KK.out Tryd.underlying33 rfl HVI'.out) rfl ⟨by rw [HV.out], BB.out⟩
end Go.Proofs.YtfpbijnlmlaloaaDoor
