/- Contract of package tree's folded: what a digest folds to. No condition. -/
import Derived.Test.YtkopoepoinkpeaaDoorJ27
import Derived.Test.YtkopoepoinkpeaaDoorTrRefSplit
namespace Go.Proofs.YtkopoepoinkpeaaDoor
open Go.RowKit
set_option linter.unusedVariables false
set_option linter.unusedSimpArgs false
set_option maxRecDepth 100000
attribute [local go_sem ↓] Go.wp_at_zero Go.wp_at_succ

theorem Dg.last {ds : List (List Nat)} (h : Dg ds) (hn : 0 < ds.length) : (ds.getLastD []).length = 32 ∧ (∀ b ∈ ds.getLastD [], b < 256) ∧ ds[ds.length - 1]? = some (ds.getLastD []) := by
  obtain ⟨x, hx⟩ : ∃ x, ds[ds.length - 1]? = some x := ⟨_, List.getElem?_eq_getElem (by omega)⟩
  have hl : ds.getLastD [] = x := by
    rw [List.getLastD_eq_getLast?, List.getLast?_eq_getElem?, hx]
    rfl
  rw [hl]
  exact ⟨(h x (List.mem_of_getElem? hx)).1, (h x (List.mem_of_getElem? hx)).2, hx⟩
theorem dropLast_is (ds : List (List Nat)) (m : Nat) (h : ds.length = m + 1) : ds.dropLast = ds.take m := by
  rw [List.dropLast_eq_take, h]
  rfl
set_option maxHeartbeats 4000000 in
theorem folded_any : ∀ (n : Nat) (d : List Nat) (i : Nat) (ds : List (List Nat)) (A : Option Addr) (c : Nat) (w : World), i < n → n ≤ 1152921504606846976 → d.length = 32 → (∀ b ∈ d, b < 256) → ds.length = depD i n → Dg ds → HsAt w A ds → ds.length ≤ c → ds.length ≤ 1000000 → ShTab w →
    Calls Tryd.prog 36 #[.agg (bs d).toArray, .int .i64 (i : Int), .int .i64 (n : Int), .slice A ds.length c] w (HashTo w w.heap.size (foldD d i n ds)) := by
  intro n
  induction n using Nat.strongRecOn with
  | _ n ih =>
    intro d i ds A c w hi hmax h32 hd hlen hdg hat hc hl1 ht
    have hz := (zero_of_info info_hash).1
    obtain ⟨VD, hVD, hvz, hon, hvi⟩ := hash_ok d h32
    have b1 := (Below.refl w.heap.size w).alloc (Nat.le_refl _) (.cells VD 31)
    have b2 := b1.alloc b1.size (.cells (Array.replicate 32 (.int .u8 0)) 31)
    have k1 := (Blk.new w 31 VD).alloc (.cells (Array.replicate 32 (.int .u8 0)) 31)
    have k2 := Blk.new (w.alloc (.cells VD 31)) 31 (Array.replicate 32 (.int .u8 0))
    simp only [World.size_alloc] at k2
    obtain ⟨W0, hW0⟩ : ∃ W0, (w.alloc (.cells VD 31)).alloc (.cells (Array.replicate 32 (.int .u8 0)) 31) = W0 := ⟨_, rfl⟩
    have hs0 : W0.heap.size = w.heap.size + 1 + 1 := by rw [← hW0]; simp
    rw [hW0] at b2 k1 k2
    rw [hVD]
    have hrd : W0.rangeAt w.heap.size 0 (bs d) := by rw [← hVD] at k1; exact k1.range
    have HAT := Lib.hid (hat.next b2)
    have HT := Lib.hid (ht.next b2)
    have HB2 := Lib.hid b2; have HK1 := Lib.hid k1; have HK2 := Lib.hid k2; have HS0 := Lib.hid hs0; have HRD := Lib.hid hrd; have HIH := Lib.hid ih; have HDG := Lib.hid hdg; have HD := Lib.hid hd; have H32 := Lib.hid h32
    have HID := Lib.hid (hash_size d h32)
    have HVD := Lib.hid hVD; have HDZ := Lib.hid hvz; have HDO := Lib.hid hon; have HDI := Lib.hid hvi
    obtain ⟨V, hV, hvz', hon', hvi'⟩ := hash_ok (foldD d i n ds) (foldD_len i n ds h32)
    have HV := Lib.hid hV; have HVZ := Lib.hid hvz'; have HON := Lib.hid hon'; have HVI := Lib.hid hvi'
    clear b1 b2 k1 k2 hs0 hrd ih hdg hd h32 hVD hvz hon hvi hV hvz' hon' hvi' hat ht
    by_cases h1 : n = 1
    · subst h1
      have e1 : VD = V := by rw [← HVD.out, ← HV.out, foldD_one d i ds (by omega)]
      subst e1
      go_enter Tryd.func36, Tryd.ntmps36
      go_wp2_with (first
        | refine wpQ_load (by rfl) 31 (.tmp 4) rfl w.heap.size 0 rfl (bs d) VD HVD.out _ HRD.out Tryd.underlying31 rfl HID.out ?_
        | (refine wpList_store_row (by rfl) (.tmp 8) (.tmp 15) (by rfl) (by rfl) (by rfl) HK2.out HVI.out (by rw [HVZ.out]; simp) HON.out ?_))
      refine bodyPost_ret (v := .agg VD) (results_cell_row rfl _ _ _ _ _ _ _ (by rfl) (HK2.out.row VD) Tryd.underlying31 rfl HVI.out) rfl ⟨by rw [HV.out], Below.row HB2.out (by omega) _⟩
    · have h2 : 2 ≤ n := by omega
      have hk1 := spl_lt h2
      have hk2 := spl_pos h2
      have hk3 := spl_le h2
      obtain ⟨m, hm⟩ : ∃ m, ds.length = m + 1 := by
        by_cases hk : i < spl n
        · exact ⟨_, hlen.trans (depD_left h2 hk)⟩
        · exact ⟨_, hlen.trans (depD_right h2 hk)⟩
      obtain ⟨hL1, hL2, hL3⟩ := HDG.out.last (by omega)
      have hdl := dropLast_is ds m hm
      rw [hm, Nat.add_sub_cancel] at hL3
      obtain ⟨bb, oo, rfl, hbb, hrr⟩ := HAT.out.at_ HDG.out hL3
      have hfo := HAT.out.fore HDG.out (k := m) (by omega)
      have htl : (ds.take m).length = m := by rw [List.length_take]; omega
      obtain ⟨L, hLe⟩ : ∃ L, ds.getLastD [] = L := ⟨_, rfl⟩
      obtain ⟨ps, hps⟩ : ∃ ps, ds.take m = ps := ⟨_, rfl⟩
      rw [hLe] at hL1 hL2 hrr
      rw [hps] at hfo htl hdl
      obtain ⟨VL, hVL, hlz, hlo, hli⟩ := hash_ok L hL1
      have HVL := Lib.hid hVL; have HLZ := Lib.hid hlz; have HLO := Lib.hid hlo; have HLI := Lib.hid hli
      have HIL := Lib.hid (hash_size L hL1)
      have HRR := Lib.hid hrr; have HFO := Lib.hid hfo; have HTL := Lib.hid htl; have HDL := Lib.hid hdl; have HLE := Lib.hid hLe
      have HPG : Hid (Dg ps) := Lib.hid (by rw [← hps]; exact HDG.out.take m)
      have HL1 := Lib.hid hL1; have HL2 := Lib.hid hL2
      have HSP := Lib.hid (split_any (n : Int) W0 (by omega) (by omega))
      have HN := Lib.hid hlen; have HM := Lib.hid hm
      rw [hm]
      rw [hm] at hc hl1
      have hw1 : IntKind.i64.wrap (((m + 1 : Nat) : Int) - 1) = (m : Int) := by rw [show ((m + 1 : Nat) : Int) - 1 = (m : Int) by omega]; exact IntWalk.i64_in _ (by omega)
      have hn1 : ¬ (n : Int) = 1 := by omega
      have q1 : (m : Int) ≤ (c : Int) := by omega
      have q2 : (m : Int) < (m : Int) + 1 := by omega
      clear hVL hlz hlo hli hrr hfo htl hdl hLe hps hL1 hL2 hL3 hm hlen
      go_enter Tryd.func36, Tryd.ntmps36
      go_upto_region 4 with fail
      try clear hW0
      refine wp_region_noPanic ?_
      refine wp_region_held_drew (S := fun w' => w'.rangeAt bb (oo + m * 32) (bs L)) (by kernel_rfl) (by rw [World.rangeAt_drew]; exact HRR.out) (fun hHeld => ?_)
      refine wpAnyH_take (i := 0) (oi := { dst := some 19, op := Go.Op.move (Go.Operand.tmp 3), type := 25, pos := "tree.go:103", after := #[], guard := none }) (v := ?_) rfl (by kernel_rfl) (by kernel_rfl) (by kernel_rfl) (fun _ _ _ => np) (Or.inl ⟨by rfl, ?_⟩) (by assumption) ?_
      rotate_left
      · (intro _ hSw; (try dsimp only at hSw); clear hSw; go_simp; try with_reducible rfl)
      try simp only [Act.put, List.setIfInBounds_toArray, List.set_cons_zero, List.set_cons_succ]
      refine wpAnyH_take (i := 1) (oi := { dst := some 20, op := Go.Op.move (Go.Operand.tmp 9), type := 3, pos := "tree.go:103", after := #[], guard := none }) (v := ?_) rfl (by kernel_rfl) (by kernel_rfl) (by kernel_rfl) (fun _ _ _ => np) (Or.inl ⟨by rfl, ?_⟩) (by assumption) ?_
      rotate_left
      · (intro _ hSw; (try dsimp only at hSw); clear hSw; go_simp; try with_reducible rfl)
      try simp only [Act.put, List.setIfInBounds_toArray, List.set_cons_zero, List.set_cons_succ]
      refine wpAnyH_take (i := 2) (oi := { dst := some 21, op := Go.Op.move (Go.Operand.tmp 9), type := 3, pos := "tree.go:103", after := #[], guard := none }) (v := ?_) rfl (by kernel_rfl) (by kernel_rfl) (by kernel_rfl) (fun _ _ _ => np) (Or.inl ⟨by rfl, ?_⟩) (by assumption) ?_
      rotate_left
      · (intro _ hSw; (try dsimp only at hSw); clear hSw; go_simp; try with_reducible rfl)
      try simp only [Act.put, List.setIfInBounds_toArray, List.set_cons_zero, List.set_cons_succ]
      refine wpAnyH_take (i := 3) (oi := { dst := some 22, op := Go.Op.slice 25 (Go.Operand.tmp 19) none (some (Go.Operand.tmp 20)) (some (Go.Operand.tmp 21)), type := 25, pos := "tree.go:103", after := #[{ on := 0, ground := Go.Ground.data }, { on := 1, ground := Go.Ground.data }, { on := 2, ground := Go.Ground.data }], guard := none }) (v := ?_) rfl (by kernel_rfl) (by kernel_rfl) (by kernel_rfl) (fun _ _ _ => np) (Or.inl ⟨by rfl, ?_⟩) (by assumption) ?_
      rotate_left
      · (intro _ hSw; (try dsimp only at hSw); clear hSw; go_simp; try with_reducible rfl)
      try simp only [Act.put, List.setIfInBounds_toArray, List.set_cons_zero, List.set_cons_succ]
      refine wpAnyH_take (i := 4) (oi := { dst := some 23, op := Go.Op.move (Go.Operand.tmp 3), type := 25, pos := "tree.go:103", after := #[{ on := 9, ground := Go.Ground.gcOnly Go.Departure.lateStores }], guard := none }) (v := ?_) rfl (by kernel_rfl) (by kernel_rfl) (by kernel_rfl) (fun _ _ _ => np) (Or.inl ⟨by rfl, ?_⟩) (by assumption) ?_
      rotate_left
      · (intro _ hSw; (try dsimp only at hSw); clear hSw; go_simp; try with_reducible rfl)
      try simp only [Act.put, List.setIfInBounds_toArray, List.set_cons_zero, List.set_cons_succ]
      refine wpAnyH_take (i := 5) (oi := { dst := some 24, op := Go.Op.move (Go.Operand.tmp 9), type := 3, pos := "tree.go:103", after := #[{ on := 9, ground := Go.Ground.gcOnly Go.Departure.lateStores }], guard := none }) (v := ?_) rfl (by kernel_rfl) (by kernel_rfl) (by kernel_rfl) (fun _ _ _ => np) (Or.inl ⟨by rfl, ?_⟩) (by assumption) ?_
      rotate_left
      · (intro _ hSw; (try dsimp only at hSw); clear hSw; go_simp; try with_reducible rfl)
      try simp only [Act.put, List.setIfInBounds_toArray, List.set_cons_zero, List.set_cons_succ]
      refine wpAnyH_take (i := 6) (oi := { dst := some 25, op := Go.Op.indexAddr 25 (Go.Operand.tmp 23) (Go.Operand.tmp 24), type := 0, pos := "tree.go:103", after := #[{ on := 4, ground := Go.Ground.data }, { on := 5, ground := Go.Ground.data }, { on := 9, ground := Go.Ground.gcOnly Go.Departure.lateStores }], guard := none }) (v := ?_) rfl (by kernel_rfl) (by kernel_rfl) (by kernel_rfl) (fun _ _ _ => np) (Or.inl ⟨by rfl, ?_⟩) (by assumption) ?_
      rotate_left
      · (intro _ hSw; (try dsimp only at hSw); clear hSw; go_simp; try with_reducible rfl)
      try simp only [Act.put, List.setIfInBounds_toArray, List.set_cons_zero, List.set_cons_succ]
      refine wpAnyH_take (i := 7) (oi := { dst := some 26, op := Go.Op.load 31 (Go.Operand.tmp 25), type := 31, pos := "tree.go:103", after := #[{ on := 6, ground := Go.Ground.data }, { on := 9, ground := Go.Ground.gcOnly Go.Departure.lateStores }], guard := none }) (v := .agg VL) rfl (by kernel_rfl) (by kernel_rfl) (by kernel_rfl) (fun _ _ _ => np) (yieldsIf_loadX (by rfl) 31 (.tmp 25) rfl bb (oo + m * 32) rfl (bs L) VL HVL.out _ (fun w' hS => hS) Tryd.underlying31 rfl HIL.out) (by assumption) ?_
      try simp only [Act.put, List.setIfInBounds_toArray, List.set_cons_zero, List.set_cons_succ]
      clear hHeld
      have b1 := Below.drew ((Below.refl W0.heap.size W0).alloc (Nat.le_refl _) (.cells (Array.replicate 32 (.int .u8 0)) 31))
      have k1 := (Blk.new W0 31 (Array.replicate 32 (.int .u8 0))).drew
      refine wpAnyH_ready (rs := [8]) (by kernel_rfl) (by simp) ?_
      refine AllReadyH.cons rfl (fun K hK => ?_) AllReadyH.nil
      go_simp
      refine hK.out _ _ (fun j v hv => (b1.cell (p := ⟨bb, oo + m * 32 + j, none⟩) hbb).trans (HRR.out j v hv)) (fun hHeld => ?_)
      clear hK K
      try simp only [Act.put, List.setIfInBounds_toArray, List.set_cons_zero, List.set_cons_succ]
      clear hHeld
      obtain ⟨W1, hW1⟩ : ∃ W1, (W0.alloc (.cells (Array.replicate 32 (.int .u8 0)) 31)).drew = W1 := ⟨_, rfl⟩
      rw [hW1] at b1 k1 ⊢
      clear hW1
      have hHeld : W1.rangeAt bb (oo + m * 32) (bs L) := fun j v hv => (b1.cell (p := ⟨bb, oo + m * 32 + j, none⟩) hbb).trans (HRR.out j v hv)
      refine wpAnyH_take (i := 9) (oi := { dst := some 10, op := Go.Op.assign (Go.Operand.tmp 22), type := 25, pos := "tree.go:103", after := #[{ on := 3, ground := Go.Ground.data }, { on := 0, ground := Go.Ground.phase }, { on := 1, ground := Go.Ground.phase }, { on := 2, ground := Go.Ground.phase }, { on := 3, ground := Go.Ground.phase }, { on := 4, ground := Go.Ground.textOnly Go.Departure.lateStores }, { on := 5, ground := Go.Ground.textOnly Go.Departure.lateStores }, { on := 6, ground := Go.Ground.textOnly Go.Departure.lateStores }, { on := 7, ground := Go.Ground.textOnly Go.Departure.lateStores }, { on := 8, ground := Go.Ground.phase }], guard := none }) (v := ?_) rfl (by kernel_rfl) (by kernel_rfl) (by kernel_rfl) (fun _ _ _ => np) (Or.inl ⟨by rfl, ?_⟩) (by assumption) ?_
      rotate_left
      · (intro _ hSw; (try dsimp only at hSw); clear hSw; go_simp; try with_reducible rfl)
      try simp only [Act.put, List.setIfInBounds_toArray, List.set_cons_zero, List.set_cons_succ]
      have hst := run_storeCells_row (P := Tryd.prog) k1 (cs' := VL) HLI.out (by rw [HLZ.out]; simp) HLO.out
      have hvv := HLZ.out
      refine wpAnyH_ready (rs := [10]) (by kernel_rfl) (by simp) ?_
      refine AllReadyH.cons rfl (fun K hK => ?_) AllReadyH.nil
      go_simp
      refine hK.out _ _ (fun j v hv => (World.cell?_of_block (a := ⟨bb, oo + m * 32 + j, none⟩) (setRow_other W1 W0.heap.size bb VL (by omega))).trans ((b1.cell (p := ⟨bb, oo + m * 32 + j, none⟩) hbb).trans (HRR.out j v hv))) (fun hHeld => ?_)
      clear hK K
      try simp only [Act.put, List.setIfInBounds_toArray, List.set_cons_zero, List.set_cons_succ]
      refine wpAnyH_done (by kernel_rfl) ?_ _
      refine NoPanic.normal ?_
      have k2 := k1.row VL
      have b2 := Below.row b1 (Nat.le_refl W0.heap.size) VL
      obtain ⟨W2, hW2⟩ : ∃ W2, W1.setRow W0.heap.size VL = W2 := ⟨_, rfl⟩
      rw [hW2] at k2 b2 ⊢
      clear hW2 hst k1 b1 hvv hHeld
      have hlt2 : W0.heap.size < W2.heap.size := k2.lt
      have HK1' := Lib.hid (HK1.out.below b2 HK1.out.lt); have HK2' := Lib.hid (HK2.out.below b2 HK2.out.lt)
      have HRD2 : Hid (W2.rangeAt w.heap.size 0 (bs d)) := Lib.hid (by have := HK1'.out; rw [← HVD.out] at this; exact this.range)
      have HRL2 : Hid (W2.rangeAt W0.heap.size 0 (bs L)) := Lib.hid (by rw [← HVL.out] at k2; exact k2.range)
      have HB2W := Lib.hid b2
      have HSPL := Lib.hid (split_any (n : Int) W2 (by omega) (by omega))
      rw [Int.toNat_natCast] at HSPL
      clear k2 b2 HSP
      go_wp2_with fail
      refine HSPL.out.mono ?_
      rintro _ _ ⟨rfl, rfl⟩
      by_cases hk : i < spl n
      · have hfl := foldD_left d ds h2 hk
        rw [HDL.out, HLE.out] at hfl
        have hdl2 := HN.out
        rw [depD_left h2 hk] at hdl2
        obtain ⟨k, hke⟩ : ∃ k, spl n = k := ⟨_, rfl⟩
        rw [hke] at hk hk1 hk2 hk3 hfl hdl2 ⊢
        have hkI : (i : Int) < (k : Int) := by omega
        clear hke
        have hX' := hfl
        obtain ⟨X, hX⟩ : ∃ X, foldD d i k ps = X := ⟨_, rfl⟩
        rw [hX] at hX'
        have hX32 : X.length = 32 := by rw [← hX]; exact foldD_len _ _ _ H32.out
        have hXB : ∀ b ∈ X, b < 256 := by rw [← hX]; exact foldD_byte _ _ _ HD.out
        obtain ⟨VX, hVX⟩ : ∃ VX, (bs X).toArray = VX := ⟨_, rfl⟩
        have HC : Hid (∀ W, Below W2.heap.size W2 W → Calls Tryd.prog 36 #[.agg VD, .int .i64 (i : Int), .int .i64 (k : Int), .slice (some ⟨bb, oo, none⟩) m m] W fun e w' => e = .returned (.agg VX) ∧ Below W.heap.size W w') := Lib.hid fun W hW => by
          have hb := HB2W.out.trans (hW.mono HB2W.out.size)
          have := HIH.out k (by omega) d i ps (some ⟨bb, oo, none⟩) m W (by omega) (by omega) H32.out HD.out (by rw [HTL.out]; have := HM.out; omega) HPG.out (HFO.out.next hb) (by rw [HTL.out]; exact Nat.le_refl _) (by rw [HTL.out]; omega) (HT.out.next hb)
          unfold HashTo at this
          rw [HTL.out, hX, hVX, HVD.out] at this
          exact this
        have HND : Hid (∀ W, Below W2.heap.size W2 W → Calls Tryd.prog 18 #[.agg VX, .agg VL] W fun e w' => e = .returned (.agg V) ∧ Below W.heap.size W w') := Lib.hid fun W hW => by
          have hb := HB2W.out.trans (hW.mono HB2W.out.size)
          have := node_any X L W (hX32) (HL1.out) (hXB) (HL2.out) (HT.out.next hb)
          unfold HashTo at this
          rw [hVX, HVL.out, ← hX', HV.out] at this
          exact this
        clear hX hVX hX32 hXB hX' hdl2 hfl
        go_upto_region 7 with fail
        have HB := Below.drew (Below.refl W2.heap.size W2)
        refine wp_region_noPanic ?_
        refine wp_region_held_drew (S := fun w' => w'.rangeAt w.heap.size 0 (bs d) ∧ w'.rangeAt W0.heap.size 0 (bs L)) (by kernel_rfl) ⟨by rw [World.rangeAt_drew]; exact HRD2.out, by rw [World.rangeAt_drew]; exact HRL2.out⟩ (fun hHeld => ?_)
        refine wpAnyH_take (i := 1) (oi := { dst := some 33, op := Go.Op.move (Go.Operand.tmp 1), type := 3, pos := "tree.go:106", after := #[], guard := none }) (v := ?_) rfl (by kernel_rfl) (by kernel_rfl) (by kernel_rfl) (fun _ _ _ => np) (Or.inl ⟨by rfl, ?_⟩) (by assumption) ?_
        rotate_left
        · (intro _ hSw; (try dsimp only at hSw); clear hSw; go_simp; try with_reducible rfl)
        try simp only [Act.put, List.setIfInBounds_toArray, List.set_cons_zero, List.set_cons_succ]
        refine wpAnyH_take (i := 2) (oi := { dst := some 34, op := Go.Op.move (Go.Operand.tmp 12), type := 3, pos := "tree.go:106", after := #[], guard := none }) (v := ?_) rfl (by kernel_rfl) (by kernel_rfl) (by kernel_rfl) (fun _ _ _ => np) (Or.inl ⟨by rfl, ?_⟩) (by assumption) ?_
        rotate_left
        · (intro _ hSw; (try dsimp only at hSw); clear hSw; go_simp; try with_reducible rfl)
        try simp only [Act.put, List.setIfInBounds_toArray, List.set_cons_zero, List.set_cons_succ]
        refine wpAnyH_take (i := 3) (oi := { dst := some 35, op := Go.Op.move (Go.Operand.tmp 10), type := 25, pos := "tree.go:106", after := #[], guard := none }) (v := ?_) rfl (by kernel_rfl) (by kernel_rfl) (by kernel_rfl) (fun _ _ _ => np) (Or.inl ⟨by rfl, ?_⟩) (by assumption) ?_
        rotate_left
        · (intro _ hSw; (try dsimp only at hSw); clear hSw; go_simp; try with_reducible rfl)
        try simp only [Act.put, List.setIfInBounds_toArray, List.set_cons_zero, List.set_cons_succ]
        refine wpAnyH_take (i := 0) (oi := { dst := some 32, op := Go.Op.load 31 (Go.Operand.tmp 4), type := 31, pos := "tree.go:106", after := #[], guard := none }) (v := .agg VD) rfl (by kernel_rfl) (by kernel_rfl) (by kernel_rfl) (fun _ _ _ => np) (yieldsIf_loadX (by rfl) 31 (.tmp 4) rfl w.heap.size 0 rfl (bs d) VD HVD.out _ (fun w' hS => hS.1) Tryd.underlying31 rfl HID.out) (by assumption) ?_
        try simp only [Act.put, List.setIfInBounds_toArray, List.set_cons_zero, List.set_cons_succ]
        refine wpAnyH_take (i := 5) (oi := { dst := some 37, op := Go.Op.load 31 (Go.Operand.tmp 11), type := 31, pos := "tree.go:106", after := #[], guard := none }) (v := .agg VL) rfl (by kernel_rfl) (by kernel_rfl) (by kernel_rfl) (fun _ _ _ => np) (yieldsIf_loadX (by rfl) 31 (.tmp 11) rfl W0.heap.size 0 rfl (bs L) VL HVL.out _ (fun w' hS => hS.2) Tryd.underlying31 rfl HIL.out) (by assumption) ?_
        try simp only [Act.put, List.setIfInBounds_toArray, List.set_cons_zero, List.set_cons_succ]
        refine wpAnyH_ready (rs := [4]) (by kernel_rfl) (by simp) ?_
        refine AllReadyH.cons rfl (fun K hK => ?_) AllReadyH.nil
        go_simp
        go_at_call 36
        refine (HC.out _ HB).mono ?_
        rintro _ w6 ⟨rfl, hb6⟩
        have HB6 := HB.trans (hb6.mono HB.size)
        go_wp2_with fail
        refine hK.out _ _ (⟨fun j v hv => (HB6.cell (p := ⟨w.heap.size, 0 + j, none⟩) (by show w.heap.size < W2.heap.size; have := HS0.out; omega)).trans (HRD2.out j v hv), fun j v hv => (HB6.cell (p := ⟨W0.heap.size, 0 + j, none⟩) hlt2).trans (HRL2.out j v hv)⟩) (fun hHeld => ?_)
        clear hK K
        try simp only [Act.put, List.setIfInBounds_toArray, List.set_cons_zero, List.set_cons_succ]
        refine wpAnyH_ready (rs := [6]) (by kernel_rfl) (by simp) ?_
        refine AllReadyH.cons rfl (fun K hK => ?_) AllReadyH.nil
        go_simp
        go_at_call 18
        refine (HND.out _ HB6).mono ?_
        rintro _ w7 ⟨rfl, hb7⟩
        have HB7 := HB6.trans (hb7.mono HB6.size)
        go_wp2_with fail
        refine hK.out _ _ (⟨fun j v hv => (HB7.cell (p := ⟨w.heap.size, 0 + j, none⟩) (by show w.heap.size < W2.heap.size; have := HS0.out; omega)).trans (HRD2.out j v hv), fun j v hv => (HB7.cell (p := ⟨W0.heap.size, 0 + j, none⟩) hlt2).trans (HRL2.out j v hv)⟩) (fun hHeld => ?_)
        clear hK K
        try simp only [Act.put, List.setIfInBounds_toArray, List.set_cons_zero, List.set_cons_succ]
        have K7 := HK2'.out.below HB7 HK2'.out.lt
        have hst := run_storeCells_row (P := Tryd.prog) K7 (cs' := V) HVI.out (by rw [HVZ.out]; simp) HON.out
        have hvv := HVZ.out
        refine wpAnyH_ready (rs := [7]) (by kernel_rfl) (by simp) ?_
        refine AllReadyH.cons rfl (fun K hK => ?_) AllReadyH.nil
        go_simp
        refine hK.out _ _ (⟨fun j v hv => (World.cell?_of_block (a := ⟨w.heap.size, 0 + j, none⟩) (setRow_other w7 (w.heap.size + 1) w.heap.size V (by omega))).trans ((HB7.cell (p := ⟨w.heap.size, 0 + j, none⟩) (by show w.heap.size < W2.heap.size; have := HS0.out; omega)).trans (HRD2.out j v hv)), fun j v hv => (World.cell?_of_block (a := ⟨W0.heap.size, 0 + j, none⟩) (setRow_other w7 (w.heap.size + 1) W0.heap.size V (by have := HS0.out; omega))).trans ((HB7.cell (p := ⟨W0.heap.size, 0 + j, none⟩) hlt2).trans (HRL2.out j v hv))⟩) (fun hHeld => ?_)
        clear hK K
        try simp only [Act.put, List.setIfInBounds_toArray, List.set_cons_zero, List.set_cons_succ]
        refine wpAnyH_done (by kernel_rfl) ?_ _
        refine NoPanic.normal ?_
        have KK := Lib.hid (K7.row V)
        have BB := Lib.hid (Below.row (HB2.out.trans ((HB2W.out.trans (HB7.mono HB2W.out.size)).mono HB2.out.size)) (show w.heap.size ≤ w.heap.size + 1 by omega) V)
        clear hst K7 hHeld HB HB6 HB7 hb6 hb7
        go_wp2_with fail
        exact bodyPost_ret (v := .agg V) (results_cell_row rfl _ _ _ _ _ _ _ (by rfl) KK.out Tryd.underlying31 rfl HVI.out) rfl ⟨by rw [HV.out], BB.out⟩
      · have hfl := foldD_right d ds h2 hk
        rw [HDL.out, HLE.out] at hfl
        have hdl2 := HN.out
        rw [depD_right h2 hk] at hdl2
        obtain ⟨k, hke⟩ : ∃ k, spl n = k := ⟨_, rfl⟩
        rw [hke] at hk hk1 hk2 hk3 hfl hdl2 ⊢
        have hkI : ¬ (i : Int) < (k : Int) := by omega
        clear hke
        have hX' := hfl
        have hw2 : IntKind.i64.wrap ((i : Int) - (k : Int)) = (i : Int) - (k : Int) := IntWalk.i64_in _ (by omega)
        have hw3 : IntKind.i64.wrap ((n : Int) - (k : Int)) = (n : Int) - (k : Int) := IntWalk.i64_in _ (by omega)
        obtain ⟨X, hX⟩ : ∃ X, foldD d (i - k) (n - k) ps = X := ⟨_, rfl⟩
        rw [hX] at hX'
        have hX32 : X.length = 32 := by rw [← hX]; exact foldD_len _ _ _ H32.out
        have hXB : ∀ b ∈ X, b < 256 := by rw [← hX]; exact foldD_byte _ _ _ HD.out
        obtain ⟨VX, hVX⟩ : ∃ VX, (bs X).toArray = VX := ⟨_, rfl⟩
        have HC : Hid (∀ W, Below W2.heap.size W2 W → Calls Tryd.prog 36 #[.agg VD, .int .i64 ((i : Int) - (k : Int)), .int .i64 ((n : Int) - (k : Int)), .slice (some ⟨bb, oo, none⟩) m m] W fun e w' => e = .returned (.agg VX) ∧ Below W.heap.size W w') := Lib.hid fun W hW => by
          have hb := HB2W.out.trans (hW.mono HB2W.out.size)
          have := HIH.out (n - k) (by omega) d (i - k) ps (some ⟨bb, oo, none⟩) m W (by omega) (by omega) H32.out HD.out (by rw [HTL.out]; have := HM.out; omega) HPG.out (HFO.out.next hb) (by rw [HTL.out]; exact Nat.le_refl _) (by rw [HTL.out]; omega) (HT.out.next hb)
          unfold HashTo at this
          rw [HTL.out, hX, hVX, HVD.out] at this
          rw [show ((i - k : Nat) : Int) = (i : Int) - (k : Int) by omega, show ((n - k : Nat) : Int) = (n : Int) - (k : Int) by omega] at this
          exact this
        have HND : Hid (∀ W, Below W2.heap.size W2 W → Calls Tryd.prog 18 #[.agg VL, .agg VX] W fun e w' => e = .returned (.agg V) ∧ Below W.heap.size W w') := Lib.hid fun W hW => by
          have hb := HB2W.out.trans (hW.mono HB2W.out.size)
          have := node_any L X W (HL1.out) (hX32) (HL2.out) (hXB) (HT.out.next hb)
          unfold HashTo at this
          rw [hVX, HVL.out, ← hX', HV.out] at this
          exact this
        clear hX hVX hX32 hXB hX' hdl2 hfl
        go_upto_region 8 with fail
        have HB := Below.drew (Below.refl W2.heap.size W2)
        refine wp_region_noPanic ?_
        refine wp_region_held_drew (S := fun w' => w'.rangeAt w.heap.size 0 (bs d) ∧ w'.rangeAt W0.heap.size 0 (bs L)) (by kernel_rfl) ⟨by rw [World.rangeAt_drew]; exact HRD2.out, by rw [World.rangeAt_drew]; exact HRL2.out⟩ (fun hHeld => ?_)
        refine wpAnyH_take (i := 2) (oi := { dst := some 41, op := Go.Op.move (Go.Operand.tmp 1), type := 3, pos := "tree.go:108", after := #[], guard := none }) (v := ?_) rfl (by kernel_rfl) (by kernel_rfl) (by kernel_rfl) (fun _ _ _ => np) (Or.inl ⟨by rfl, ?_⟩) (by assumption) ?_
        rotate_left
        · (intro _ hSw; (try dsimp only at hSw); clear hSw; go_simp; try with_reducible rfl)
        try simp only [Act.put, List.setIfInBounds_toArray, List.set_cons_zero, List.set_cons_succ]
        refine wpAnyH_take (i := 3) (oi := { dst := some 42, op := Go.Op.move (Go.Operand.tmp 12), type := 3, pos := "tree.go:108", after := #[], guard := none }) (v := ?_) rfl (by kernel_rfl) (by kernel_rfl) (by kernel_rfl) (fun _ _ _ => np) (Or.inl ⟨by rfl, ?_⟩) (by assumption) ?_
        rotate_left
        · (intro _ hSw; (try dsimp only at hSw); clear hSw; go_simp; try with_reducible rfl)
        try simp only [Act.put, List.setIfInBounds_toArray, List.set_cons_zero, List.set_cons_succ]
        refine wpAnyH_take (i := 4) (oi := { dst := some 43, op := Go.Op.binOp Go.BinOp.sub 3 (Go.Operand.tmp 41) (Go.Operand.tmp 42) 3, type := 3, pos := "tree.go:108", after := #[{ on := 2, ground := Go.Ground.data }, { on := 3, ground := Go.Ground.data }], guard := none }) (v := ?_) rfl (by kernel_rfl) (by kernel_rfl) (by kernel_rfl) (fun _ _ _ => np) (Or.inl ⟨by rfl, ?_⟩) (by assumption) ?_
        rotate_left
        · (intro _ hSw; (try dsimp only at hSw); clear hSw; go_simp; try with_reducible rfl)
        try simp only [Act.put, List.setIfInBounds_toArray, List.set_cons_zero, List.set_cons_succ]
        refine wpAnyH_take (i := 5) (oi := { dst := some 44, op := Go.Op.move (Go.Operand.tmp 2), type := 3, pos := "tree.go:108", after := #[], guard := none }) (v := ?_) rfl (by kernel_rfl) (by kernel_rfl) (by kernel_rfl) (fun _ _ _ => np) (Or.inl ⟨by rfl, ?_⟩) (by assumption) ?_
        rotate_left
        · (intro _ hSw; (try dsimp only at hSw); clear hSw; go_simp; try with_reducible rfl)
        try simp only [Act.put, List.setIfInBounds_toArray, List.set_cons_zero, List.set_cons_succ]
        refine wpAnyH_take (i := 6) (oi := { dst := some 45, op := Go.Op.move (Go.Operand.tmp 12), type := 3, pos := "tree.go:108", after := #[], guard := none }) (v := ?_) rfl (by kernel_rfl) (by kernel_rfl) (by kernel_rfl) (fun _ _ _ => np) (Or.inl ⟨by rfl, ?_⟩) (by assumption) ?_
        rotate_left
        · (intro _ hSw; (try dsimp only at hSw); clear hSw; go_simp; try with_reducible rfl)
        try simp only [Act.put, List.setIfInBounds_toArray, List.set_cons_zero, List.set_cons_succ]
        refine wpAnyH_take (i := 7) (oi := { dst := some 46, op := Go.Op.binOp Go.BinOp.sub 3 (Go.Operand.tmp 44) (Go.Operand.tmp 45) 3, type := 3, pos := "tree.go:108", after := #[{ on := 5, ground := Go.Ground.data }, { on := 6, ground := Go.Ground.data }], guard := none }) (v := ?_) rfl (by kernel_rfl) (by kernel_rfl) (by kernel_rfl) (fun _ _ _ => np) (Or.inl ⟨by rfl, ?_⟩) (by assumption) ?_
        rotate_left
        · (intro _ hSw; (try dsimp only at hSw); clear hSw; go_simp; try with_reducible rfl)
        try simp only [Act.put, List.setIfInBounds_toArray, List.set_cons_zero, List.set_cons_succ]
        refine wpAnyH_take (i := 8) (oi := { dst := some 47, op := Go.Op.move (Go.Operand.tmp 10), type := 25, pos := "tree.go:108", after := #[], guard := none }) (v := ?_) rfl (by kernel_rfl) (by kernel_rfl) (by kernel_rfl) (fun _ _ _ => np) (Or.inl ⟨by rfl, ?_⟩) (by assumption) ?_
        rotate_left
        · (intro _ hSw; (try dsimp only at hSw); clear hSw; go_simp; try with_reducible rfl)
        try simp only [Act.put, List.setIfInBounds_toArray, List.set_cons_zero, List.set_cons_succ]
        refine wpAnyH_take (i := 1) (oi := { dst := some 40, op := Go.Op.load 31 (Go.Operand.tmp 4), type := 31, pos := "tree.go:108", after := #[], guard := none }) (v := .agg VD) rfl (by kernel_rfl) (by kernel_rfl) (by kernel_rfl) (fun _ _ _ => np) (yieldsIf_loadX (by rfl) 31 (.tmp 4) rfl w.heap.size 0 rfl (bs d) VD HVD.out _ (fun w' hS => hS.1) Tryd.underlying31 rfl HID.out) (by assumption) ?_
        try simp only [Act.put, List.setIfInBounds_toArray, List.set_cons_zero, List.set_cons_succ]
        refine wpAnyH_take (i := 0) (oi := { dst := some 39, op := Go.Op.load 31 (Go.Operand.tmp 11), type := 31, pos := "tree.go:108", after := #[], guard := none }) (v := .agg VL) rfl (by kernel_rfl) (by kernel_rfl) (by kernel_rfl) (fun _ _ _ => np) (yieldsIf_loadX (by rfl) 31 (.tmp 11) rfl W0.heap.size 0 rfl (bs L) VL HVL.out _ (fun w' hS => hS.2) Tryd.underlying31 rfl HIL.out) (by assumption) ?_
        try simp only [Act.put, List.setIfInBounds_toArray, List.set_cons_zero, List.set_cons_succ]
        refine wpAnyH_ready (rs := [9]) (by kernel_rfl) (by simp) ?_
        refine AllReadyH.cons rfl (fun K hK => ?_) AllReadyH.nil
        go_simp
        go_at_call 36
        refine (HC.out _ HB).mono ?_
        rintro _ w6 ⟨rfl, hb6⟩
        have HB6 := HB.trans (hb6.mono HB.size)
        go_wp2_with fail
        refine hK.out _ _ (⟨fun j v hv => (HB6.cell (p := ⟨w.heap.size, 0 + j, none⟩) (by show w.heap.size < W2.heap.size; have := HS0.out; omega)).trans (HRD2.out j v hv), fun j v hv => (HB6.cell (p := ⟨W0.heap.size, 0 + j, none⟩) hlt2).trans (HRL2.out j v hv)⟩) (fun hHeld => ?_)
        clear hK K
        try simp only [Act.put, List.setIfInBounds_toArray, List.set_cons_zero, List.set_cons_succ]
        refine wpAnyH_ready (rs := [10]) (by kernel_rfl) (by simp) ?_
        refine AllReadyH.cons rfl (fun K hK => ?_) AllReadyH.nil
        go_simp
        go_at_call 18
        refine (HND.out _ HB6).mono ?_
        rintro _ w7 ⟨rfl, hb7⟩
        have HB7 := HB6.trans (hb7.mono HB6.size)
        go_wp2_with fail
        refine hK.out _ _ (⟨fun j v hv => (HB7.cell (p := ⟨w.heap.size, 0 + j, none⟩) (by show w.heap.size < W2.heap.size; have := HS0.out; omega)).trans (HRD2.out j v hv), fun j v hv => (HB7.cell (p := ⟨W0.heap.size, 0 + j, none⟩) hlt2).trans (HRL2.out j v hv)⟩) (fun hHeld => ?_)
        clear hK K
        try simp only [Act.put, List.setIfInBounds_toArray, List.set_cons_zero, List.set_cons_succ]
        have K7 := HK2'.out.below HB7 HK2'.out.lt
        have hst := run_storeCells_row (P := Tryd.prog) K7 (cs' := V) HVI.out (by rw [HVZ.out]; simp) HON.out
        have hvv := HVZ.out
        refine wpAnyH_ready (rs := [11]) (by kernel_rfl) (by simp) ?_
        refine AllReadyH.cons rfl (fun K hK => ?_) AllReadyH.nil
        go_simp
        refine hK.out _ _ (⟨fun j v hv => (World.cell?_of_block (a := ⟨w.heap.size, 0 + j, none⟩) (setRow_other w7 (w.heap.size + 1) w.heap.size V (by omega))).trans ((HB7.cell (p := ⟨w.heap.size, 0 + j, none⟩) (by show w.heap.size < W2.heap.size; have := HS0.out; omega)).trans (HRD2.out j v hv)), fun j v hv => (World.cell?_of_block (a := ⟨W0.heap.size, 0 + j, none⟩) (setRow_other w7 (w.heap.size + 1) W0.heap.size V (by have := HS0.out; omega))).trans ((HB7.cell (p := ⟨W0.heap.size, 0 + j, none⟩) hlt2).trans (HRL2.out j v hv))⟩) (fun hHeld => ?_)
        clear hK K
        try simp only [Act.put, List.setIfInBounds_toArray, List.set_cons_zero, List.set_cons_succ]
        refine wpAnyH_done (by kernel_rfl) ?_ _
        refine NoPanic.normal ?_
        have KK := Lib.hid (K7.row V)
        have BB := Lib.hid (Below.row (HB2.out.trans ((HB2W.out.trans (HB7.mono HB2W.out.size)).mono HB2.out.size)) (show w.heap.size ≤ w.heap.size + 1 by omega) V)
        clear hst K7 hHeld HB HB6 HB7 hb6 hb7
        go_wp2_with fail
        exact bodyPost_ret (v := .agg V) (results_cell_row rfl _ _ _ _ _ _ _ (by rfl) KK.out Tryd.underlying31 rfl HVI.out) rfl ⟨by rw [HV.out], BB.out⟩
end Go.Proofs.YtkopoepoinkpeaaDoor
