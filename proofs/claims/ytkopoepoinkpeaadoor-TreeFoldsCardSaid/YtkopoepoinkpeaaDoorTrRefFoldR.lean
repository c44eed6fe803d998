/- Contract of the document's Fold: the other half. No condition. -/
import Derived.Test.YtkopoepoinkpeaaDoorTrRefFoldA
namespace Go.Proofs.YtkopoepoinkpeaaDoor
open Go.RowKit
set_option linter.unusedVariables false
set_option linter.unusedSimpArgs false
set_option maxRecDepth 100000
attribute [local go_sem ↓] Go.wp_at_zero Go.wp_at_succ

set_option maxHeartbeats 8000000 in
theorem refFold_right (N : Nat) (HIH : Hid (∀ M, M < N → FoldC M)) (d : List Nat) (a : Nat) (ds : List (List Nat)) (A : Option Addr) (l c : Nat) (w : World) (h32 : d.length = 32) (hd : ∀ b ∈ d, b < 256) (hm : ds.length = l + 1) (hdg : Dg ds) (hat : HsAt w A ds) (hc : l + 1 ≤ c) (hm1 : l + 1 ≤ 1000000) (h2 : 2 ≤ N) (hN : N ≤ 1099511627776) (ha : a < N) (hk : ¬ a < spl N) :
    Calls Tryd.prog 23 #[.agg (bs d).toArray, .int .i64 (a : Int), .int .i64 (N : Int), .slice A (l + 1) c] w (FoldTo w w.heap.size d (a : Int) (N : Int) ds) := by
  have hz := (zero_of_info info_hash).1
  have hsz := Lib.hid (zero_of_info info_hash).2
  obtain ⟨VD, hVD, hvz, hon, hvi⟩ := hash_ok d h32
  have b1 := (Below.refl w.heap.size w).alloc (Nat.le_refl _) (.cells VD 31)
  have b2 := b1.alloc b1.size (.cells (Array.replicate 32 (.int .u8 0)) 31)
  have k1 := (Blk.new w 31 VD).alloc (.cells (Array.replicate 32 (.int .u8 0)) 31)
  have k2 := Blk.new (w.alloc (.cells VD 31)) 31 (Array.replicate 32 (.int .u8 0))
  simp only [World.size_alloc] at k2
  obtain ⟨W0, hW0⟩ : ∃ W0, (w.alloc (.cells VD 31)).alloc (.cells (Array.replicate 32 (.int .u8 0)) 31) = W0 := ⟨_, rfl⟩
  have hs0 : W0.heap.size = w.heap.size + 1 + 1 := by rw [← hW0]; simp
  rw [hW0] at b2 k1 k2
  rw [hVD]
  have HRD : Hid (W0.rangeAt w.heap.size 0 (bs d)) := Lib.hid (by rw [← hVD] at k1; exact k1.range)
  have HAT := Lib.hid (hat.next b2); have HAT0 := Lib.hid hat
  have HB2 := Lib.hid b2; have HK2 := Lib.hid k2; have HDG := Lib.hid hdg; have HD := Lib.hid hd; have H32 := Lib.hid h32; have HS0 := Lib.hid hs0
  have HID := Lib.hid (hash_size d h32)
  have HVD := Lib.hid hVD; have HDI := Lib.hid hvi; have HDZ := Lib.hid hvz; have HDO := Lib.hid hon
  have HM := Lib.hid hm
  have hrs := Lib.hid (show (Tryd.f23).results = #[.cell 8 31, .tmp 9] from rfl)
  clear b1 b2 k1 k2 hs0 hdg hd h32 hVD hvz hon hvi hat hm
  have p1 : 1 ≤ (N : Int) := by omega
  have p2 : (N : Int) ≤ 1099511627776 := by omega
  have p3 : 0 ≤ (a : Int) := by omega
  have p4 : (a : Int) < (N : Int) := by omega
  have t1 : ¬ (N : Int) < 1 := by omega
  have t2 : ¬ 1099511627776 < (N : Int) := by omega
  have t3 : ¬ (a : Int) < 0 := by omega
  have t4 : ¬ (N : Int) ≤ (a : Int) := by omega
  have hn1 : ¬ (N : Int) = 1 := by omega
  have hk1 := spl_lt h2
  have hk2 := spl_pos h2
  obtain ⟨hL1, hL2, hL3⟩ := HDG.out.last (by rw [HM.out]; omega)
  have hdl := dropLast_is ds l HM.out
  rw [HM.out, Nat.add_sub_cancel] at hL3
  obtain ⟨bb, oo, rfl, hbb, hrr⟩ := HAT.out.at_ HDG.out hL3
  have hbbw : bb < w.heap.size := by
    obtain ⟨b', o', e, hb', _⟩ := HAT0.out.at_ HDG.out hL3
    injection e with e
    injection e with e1 e2
    omega
  have hfo := HAT.out.fore HDG.out (k := l) (by rw [HM.out]; omega)
  have htl : (ds.take l).length = l := by rw [List.length_take, HM.out]; omega
  obtain ⟨L, hLe⟩ : ∃ L, ds.getLastD [] = L := ⟨_, rfl⟩
  obtain ⟨ps, hps⟩ : ∃ ps, ds.take l = ps := ⟨_, rfl⟩
  rw [hLe] at hL1 hL2 hrr
  rw [hps] at hfo htl hdl
  have HPG : Hid (Dg ps) := Lib.hid (by rw [← hps]; exact HDG.out.take l)
  obtain ⟨VL, hVL, hlz, hlo, hli⟩ := hash_ok L hL1
  have HVL := Lib.hid hVL; have HIL := Lib.hid (hash_size L hL1)
  have HRR := Lib.hid hrr; have HFO := Lib.hid hfo; have HTL := Lib.hid htl; have HDL := Lib.hid hdl; have HLE := Lib.hid hLe; have HL1 := Lib.hid hL1; have HL2 := Lib.hid hL2
  have HSP := Lib.hid (refSplit_any (N : Int) W0 (by omega) (by omega))
  rw [Int.toNat_natCast] at HSP
  have hw1 : IntKind.i64.wrap (((l + 1 : Nat) : Int) - 1) = (l : Int) := by rw [show ((l + 1 : Nat) : Int) - 1 = (l : Int) by omega]; exact IntWalk.i64_in _ (by omega)
  have hw1' : IntKind.i64.wrap ((l : Int) + 1 - 1) = (l : Int) := by rw [show (l : Int) + 1 - 1 = (l : Int) by omega]; exact IntWalk.i64_in _ (by omega)
  have q1 : (l : Int) ≤ (c : Int) := by omega
  have q2 : (l : Int) < (l : Int) + 1 := by omega
  have q3 : ¬ (l : Int) + 1 = 0 := by omega
  clear hVL hlz hlo hli hrr hfo htl hdl hLe hps hL1 hL2 hL3
  have hok := okF_right (l := l) h2 (by omega) (by omega : a < N) hk
  have hfl := foldD_right d ds h2 hk
  rw [HDL.out, HLE.out] at hfl
  obtain ⟨k, hke⟩ : ∃ k, spl N = k := ⟨_, rfl⟩
  rw [hke] at hk hk1 hk2 hok hfl HSP
  have hkI : ¬ (a : Int) < (k : Int) := by omega
  have hw2 : IntKind.i64.wrap ((a : Int) - (k : Int)) = (a : Int) - (k : Int) := IntWalk.i64_in _ (by omega)
  have hw3 : IntKind.i64.wrap ((N : Int) - (k : Int)) = (N : Int) - (k : Int) := IntWalk.i64_in _ (by omega)
  obtain ⟨q, hq⟩ : ∃ q, okF (a : Int) (N : Int) (l + 1) = q := ⟨_, rfl⟩
  have hq2 : okF (((a - k) : Nat) : Int) (((N - k) : Nat) : Int) ps.length = q := by rw [HTL.out, ← hok]; exact hq
  obtain ⟨X, hX⟩ : ∃ X, fldV d (((a - k) : Nat) : Int) (((N - k) : Nat) : Int) ps = X := ⟨_, rfl⟩
  have hX32 : X.length = 32 := by rw [← hX]; exact fldV_len _ _ _ H32.out
  have hXB : ∀ b ∈ X, b < 256 := by
    rw [← hX]
    unfold fldV
    split
    · exact foldD_byte _ _ _ HD.out
    · intro b hb; rw [List.mem_replicate] at hb; omega
  have hXT : q = true → foldD d a N ds = nodeD L X := fun hqt => by
    rw [hfl, ← hX]
    unfold fldV
    rw [if_pos (by rw [hq2]; exact hqt)]
    rfl
  obtain ⟨VX, hVX, hxz, hxo, hxi⟩ := hash_ok X hX32
  have HVX := Lib.hid hVX; have HXZ := Lib.hid hxz; have HXO := Lib.hid hxo; have HXI := Lib.hid hxi; have HIX := Lib.hid (hash_size X hX32)
  have HX32 := Lib.hid hX32; have HXB := Lib.hid hXB; have HXT := Lib.hid hXT
  have HQ : Hid (okF (a : Int) (N : Int) ds.length = q) := Lib.hid (by rw [HM.out]; exact hq)
  have HC : Hid (∀ W, Below W0.heap.size W0 W → Calls Tryd.prog 23 #[.agg VD, .int .i64 ((a : Int) - (k : Int)), .int .i64 ((N : Int) - (k : Int)), .slice (some ⟨bb, oo, none⟩) l c] W fun e w' => e = .returned (.tuple #[.agg VX, .bool q]) ∧ Below W.heap.size W w') := Lib.hid fun W hW => by
    have := HIH.out (N - k) (by omega) (((N - k) : Nat) : Int) (by omega) d (((a - k) : Nat) : Int) ps (some ⟨bb, oo, none⟩) l c W H32.out HD.out HTL.out HPG.out (HFO.out.next hW) (by omega) (by omega)
    unfold FoldTo at this
    rw [hX, hVX, hq2, HVD.out] at this
    rw [show ((a - k : Nat) : Int) = (a : Int) - (k : Int) by omega, show ((N - k : Nat) : Int) = (N : Int) - (k : Int) by omega] at this
    exact this
  clear hok hfl hke hq hq2 hX hX32 hXB hXT hVX hxz hxo hxi
  go_enter Tryd.func23, Tryd.ntmps23
  go_wp2_with fail
  refine HSP.out.mono ?_
  rintro _ _ ⟨rfl, rfl⟩
  go_upto_region 15 with fail
  try clear hW0
  go_cut [14, 15] (fun s12 s13 wx => ∃ g12 Y, s12 = .pointer (some ⟨g12, 0, none⟩) ∧ s13 = .bool q ∧ Y = wx ∧ W0.heap.size ≤ g12 ∧ Below W0.heap.size W0 Y ∧ Blk Y g12 31 VX)
  case first =>
    refine wp_region_noPanic ?_
    refine wp_region_held_drew (S := fun w' => w'.rangeAt w.heap.size 0 (bs d)) (by kernel_rfl) (by rw [World.rangeAt_drew]; exact HRD.out) (fun hHeld => ?_)
    have hvv := HXZ.out
    have HSB : ∀ (W : World), Below W0.heap.size W0 W → W.rangeAt w.heap.size 0 (bs d) := fun W hW j v hv => (hW.cell (p := ⟨w.heap.size, 0 + j, none⟩) (by show w.heap.size < W0.heap.size; have := HS0.out; omega)).trans (HRD.out j v hv)
    have HB := Below.drew (Below.refl W0.heap.size W0)
    refine wpAnyH_take (i := 1) (oi := { dst := some 72, op := Go.Op.move (Go.Operand.tmp 1), type := 3, pos := "ref.go:80", after := #[], guard := none }) (v := ?_) rfl (by kernel_rfl) (by kernel_rfl) (by kernel_rfl) (fun _ _ _ => np) (Or.inl ⟨by rfl, ?_⟩) (by assumption) ?_
    rotate_left
    · (intro _ hSw; (try dsimp only at hSw); clear hSw; go_simp; try with_reducible rfl)
    try simp only [Act.put, List.setIfInBounds_toArray, List.set_cons_zero, List.set_cons_succ]
    refine wpAnyH_take (i := 2) (oi := { dst := some 73, op := Go.Op.move (Go.Operand.tmp 10), type := 3, pos := "ref.go:80", after := #[], guard := none }) (v := ?_) rfl (by kernel_rfl) (by kernel_rfl) (by kernel_rfl) (fun _ _ _ => np) (Or.inl ⟨by rfl, ?_⟩) (by assumption) ?_
    rotate_left
    · (intro _ hSw; (try dsimp only at hSw); clear hSw; go_simp; try with_reducible rfl)
    try simp only [Act.put, List.setIfInBounds_toArray, List.set_cons_zero, List.set_cons_succ]
    refine wpAnyH_take (i := 3) (oi := { dst := some 74, op := Go.Op.binOp Go.BinOp.sub 3 (Go.Operand.tmp 72) (Go.Operand.tmp 73) 3, type := 3, pos := "ref.go:80", after := #[{ on := 1, ground := Go.Ground.data }, { on := 2, ground := Go.Ground.data }], guard := none }) (v := ?_) rfl (by kernel_rfl) (by kernel_rfl) (by kernel_rfl) (fun _ _ _ => np) (Or.inl ⟨by rfl, ?_⟩) (by assumption) ?_
    rotate_left
    · (intro _ hSw; (try dsimp only at hSw); clear hSw; go_simp; try with_reducible rfl)
    try simp only [Act.put, List.setIfInBounds_toArray, List.set_cons_zero, List.set_cons_succ]
    refine wpAnyH_take (i := 4) (oi := { dst := some 75, op := Go.Op.move (Go.Operand.tmp 2), type := 3, pos := "ref.go:80", after := #[], guard := none }) (v := ?_) rfl (by kernel_rfl) (by kernel_rfl) (by kernel_rfl) (fun _ _ _ => np) (Or.inl ⟨by rfl, ?_⟩) (by assumption) ?_
    rotate_left
    · (intro _ hSw; (try dsimp only at hSw); clear hSw; go_simp; try with_reducible rfl)
    try simp only [Act.put, List.setIfInBounds_toArray, List.set_cons_zero, List.set_cons_succ]
    refine wpAnyH_take (i := 5) (oi := { dst := some 76, op := Go.Op.move (Go.Operand.tmp 10), type := 3, pos := "ref.go:80", after := #[], guard := none }) (v := ?_) rfl (by kernel_rfl) (by kernel_rfl) (by kernel_rfl) (fun _ _ _ => np) (Or.inl ⟨by rfl, ?_⟩) (by assumption) ?_
    rotate_left
    · (intro _ hSw; (try dsimp only at hSw); clear hSw; go_simp; try with_reducible rfl)
    try simp only [Act.put, List.setIfInBounds_toArray, List.set_cons_zero, List.set_cons_succ]
    refine wpAnyH_take (i := 6) (oi := { dst := some 77, op := Go.Op.binOp Go.BinOp.sub 3 (Go.Operand.tmp 75) (Go.Operand.tmp 76) 3, type := 3, pos := "ref.go:80", after := #[{ on := 4, ground := Go.Ground.data }, { on := 5, ground := Go.Ground.data }], guard := none }) (v := ?_) rfl (by kernel_rfl) (by kernel_rfl) (by kernel_rfl) (fun _ _ _ => np) (Or.inl ⟨by rfl, ?_⟩) (by assumption) ?_
    rotate_left
    · (intro _ hSw; (try dsimp only at hSw); clear hSw; go_simp; try with_reducible rfl)
    try simp only [Act.put, List.setIfInBounds_toArray, List.set_cons_zero, List.set_cons_succ]
    refine wpAnyH_take (i := 7) (oi := { dst := some 78, op := Go.Op.move (Go.Operand.tmp 3), type := 25, pos := "ref.go:80", after := #[], guard := none }) (v := ?_) rfl (by kernel_rfl) (by kernel_rfl) (by kernel_rfl) (fun _ _ _ => np) (Or.inl ⟨by rfl, ?_⟩) (by assumption) ?_
    rotate_left
    · (intro _ hSw; (try dsimp only at hSw); clear hSw; go_simp; try with_reducible rfl)
    try simp only [Act.put, List.setIfInBounds_toArray, List.set_cons_zero, List.set_cons_succ]
    refine wpAnyH_take (i := 8) (oi := { dst := some 79, op := Go.Op.move (Go.Operand.tmp 11), type := 3, pos := "ref.go:80", after := #[], guard := none }) (v := ?_) rfl (by kernel_rfl) (by kernel_rfl) (by kernel_rfl) (fun _ _ _ => np) (Or.inl ⟨by rfl, ?_⟩) (by assumption) ?_
    rotate_left
    · (intro _ hSw; (try dsimp only at hSw); clear hSw; go_simp; try with_reducible rfl)
    try simp only [Act.put, List.setIfInBounds_toArray, List.set_cons_zero, List.set_cons_succ]
    refine wpAnyH_take (i := 9) (oi := { dst := some 80, op := Go.Op.slice 25 (Go.Operand.tmp 78) none (some (Go.Operand.tmp 79)) none, type := 25, pos := "ref.go:80", after := #[{ on := 7, ground := Go.Ground.data }, { on := 8, ground := Go.Ground.data }], guard := none }) (v := ?_) rfl (by kernel_rfl) (by kernel_rfl) (by kernel_rfl) (fun _ _ _ => np) (Or.inl ⟨by rfl, ?_⟩) (by assumption) ?_
    rotate_left
    · (intro _ hSw; (try dsimp only at hSw); clear hSw; go_simp; try with_reducible rfl)
    try simp only [Act.put, List.setIfInBounds_toArray, List.set_cons_zero, List.set_cons_succ]
    refine wpAnyH_take (i := 0) (oi := { dst := some 71, op := Go.Op.load 31 (Go.Operand.tmp 4), type := 31, pos := "ref.go:80", after := #[], guard := none }) (v := .agg VD) rfl (by kernel_rfl) (by kernel_rfl) (by kernel_rfl) (fun _ _ _ => np) (yieldsIf_loadX (by rfl) 31 (.tmp 4) rfl w.heap.size 0 rfl (bs d) VD HVD.out _ (fun w' hS => hS) Tryd.underlying31 rfl HID.out) (by assumption) ?_
    try simp only [Act.put, List.setIfInBounds_toArray, List.set_cons_zero, List.set_cons_succ]
    refine wpAnyH_ready (rs := [10, 14]) (by kernel_rfl) (by simp) ?_
    refine AllReadyH.cons (o := { dst := some 81, op := Go.Op.call { callee := Go.Callee.value (Go.Operand.func 23), args := #[Go.Operand.tmp 71, Go.Operand.tmp 74, Go.Operand.tmp 77, Go.Operand.tmp 80], argTypes := #[31, 3, 3, 25] }, type := 38, pos := "ref.go:80", after := #[{ on := 0, ground := Go.Ground.data }, { on := 3, ground := Go.Ground.data }, { on := 6, ground := Go.Ground.data }, { on := 9, ground := Go.Ground.data }], guard := none }) rfl (fun K hK => ?_) (AllReadyH.cons (o := { dst := some 14, op := Go.Op.alloc 31, type := 0, pos := "ref.go:80", after := #[], guard := none }) rfl (fun K hK => ?_) AllReadyH.nil)
    · go_simp
      go_at_call 23
      refine (HC.out _ HB).mono ?_
      rintro _ w6 ⟨rfl, hb6⟩
      have HB6 := HB.trans (hb6.mono HB.size)
      go_wp2_with fail
      refine hK.out _ _ (HSB _ HB6) (fun hHeld => ?_)
      clear hK K
      try simp only [Act.put, List.setIfInBounds_toArray, List.set_cons_zero, List.set_cons_succ]
      clear hHeld
      have hHeld := HSB _ HB6
      refine wpAnyH_take (i := 11) (oi := { dst := some 70, op := Go.Op.move (Go.Operand.tmp 81), type := 38, pos := "ref.go:80", after := #[{ on := 10, ground := Go.Ground.data }], guard := none }) (v := ?_) rfl (by kernel_rfl) (by kernel_rfl) (by kernel_rfl) (fun _ _ _ => np) (Or.inl ⟨by rfl, ?_⟩) (by assumption) ?_
      rotate_left
      · (intro _ hSw; (try dsimp only at hSw); clear hSw; go_simp; try with_reducible rfl)
      try simp only [Act.put, List.setIfInBounds_toArray, List.set_cons_zero, List.set_cons_succ]
      refine wpAnyH_take (i := 12) (oi := { dst := some 82, op := Go.Op.extract (Go.Operand.tmp 70) 0, type := 31, pos := "ref.go:80", after := #[{ on := 11, ground := Go.Ground.data }], guard := none }) (v := ?_) rfl (by kernel_rfl) (by kernel_rfl) (by kernel_rfl) (fun _ _ _ => np) (Or.inl ⟨by rfl, ?_⟩) (by assumption) ?_
      rotate_left
      · (intro _ hSw; (try dsimp only at hSw); clear hSw; go_simp; try with_reducible rfl)
      try simp only [Act.put, List.setIfInBounds_toArray, List.set_cons_zero, List.set_cons_succ]
      refine wpAnyH_take (i := 13) (oi := { dst := some 83, op := Go.Op.extract (Go.Operand.tmp 70) 1, type := 4, pos := "ref.go:80", after := #[{ on := 11, ground := Go.Ground.data }, { on := 15, ground := Go.Ground.gcOnly Go.Departure.lateStores }], guard := none }) (v := ?_) rfl (by kernel_rfl) (by kernel_rfl) (by kernel_rfl) (fun _ _ _ => np) (Or.inl ⟨by rfl, ?_⟩) (by assumption) ?_
      rotate_left
      · (intro _ hSw; (try dsimp only at hSw); clear hSw; go_simp; try with_reducible rfl)
      try simp only [Act.put, List.setIfInBounds_toArray, List.set_cons_zero, List.set_cons_succ]
      have B7 := HB6.alloc HB6.size (.cells (Array.replicate 32 (.int .u8 0)) 31)
      have K7 := Blk.new w6 31 (Array.replicate 32 (.int .u8 0))
      refine wpAnyH_ready (rs := [14]) (by kernel_rfl) (by simp) ?_
      refine AllReadyH.cons rfl (fun K hK => ?_) AllReadyH.nil
      go_simp
      refine hK.out _ _ (HSB _ B7) (fun hHeld => ?_)
      clear hK K
      try simp only [Act.put, List.setIfInBounds_toArray, List.set_cons_zero, List.set_cons_succ]
      have hst := run_storeCells_row (P := Tryd.prog) K7 (cs' := VX) HXI.out (by rw [HXZ.out]; simp) HXO.out
      have B8 := Below.row B7 HB6.size VX
      refine wpAnyH_ready (rs := [15]) (by kernel_rfl) (by simp) ?_
      refine AllReadyH.cons rfl (fun K hK => ?_) AllReadyH.nil
      go_simp
      refine hK.out _ _ (HSB _ B8) (fun hHeld => ?_)
      clear hK K
      try simp only [Act.put, List.setIfInBounds_toArray, List.set_cons_zero, List.set_cons_succ]
      clear hHeld
      have hHeld := HSB _ B8
      refine wpAnyH_take (i := 16) (oi := { dst := some 15, op := Go.Op.assign (Go.Operand.tmp 83), type := 4, pos := "ref.go:80", after := #[{ on := 13, ground := Go.Ground.data }, { on := 15, ground := Go.Ground.chain }, { on := 0, ground := Go.Ground.phase }, { on := 1, ground := Go.Ground.phase }, { on := 2, ground := Go.Ground.phase }, { on := 3, ground := Go.Ground.phase }, { on := 4, ground := Go.Ground.phase }, { on := 5, ground := Go.Ground.phase }, { on := 6, ground := Go.Ground.phase }, { on := 7, ground := Go.Ground.phase }, { on := 8, ground := Go.Ground.phase }, { on := 9, ground := Go.Ground.phase }, { on := 10, ground := Go.Ground.phase }, { on := 11, ground := Go.Ground.phase }, { on := 12, ground := Go.Ground.phase }, { on := 13, ground := Go.Ground.phase }, { on := 14, ground := Go.Ground.phase }, { on := 15, ground := Go.Ground.phase }], guard := none }) (v := ?_) rfl (by kernel_rfl) (by kernel_rfl) (by kernel_rfl) (fun _ _ _ => np) (Or.inl ⟨by rfl, ?_⟩) (by assumption) ?_
      rotate_left
      · (intro _ hSw; (try dsimp only at hSw); clear hSw; go_simp; try with_reducible rfl)
      try simp only [Act.put, List.setIfInBounds_toArray, List.set_cons_zero, List.set_cons_succ]
      refine wpAnyH_done (by kernel_rfl) ?_ _
      refine NoPanic.normal ?_
      go_wp2_with fail
      go_meet
      exact ⟨w6.heap.size, _, rfl, rfl, rfl, HB6.size, B8, K7.row VX⟩
    · have B5 := Below.drew ((Below.refl W0.heap.size W0).alloc (Nat.le_refl _) (.cells (Array.replicate 32 (.int .u8 0)) 31))
      have K5 := (Blk.new W0 31 (Array.replicate 32 (.int .u8 0))).drew
      go_simp
      refine hK.out _ _ (HSB _ B5) (fun hHeld => ?_)
      clear hK K
      try simp only [Act.put, List.setIfInBounds_toArray, List.set_cons_zero, List.set_cons_succ]
      obtain ⟨W5, hW5⟩ : ∃ W5, (W0.alloc (.cells (Array.replicate 32 (.int .u8 0)) 31)).drew = W5 := ⟨_, rfl⟩
      rw [hW5] at B5 K5 ⊢
      clear hW5
      refine wpAnyH_ready (rs := [10]) (by kernel_rfl) (by simp) ?_
      refine AllReadyH.cons rfl (fun K hK => ?_) AllReadyH.nil
      go_simp
      go_at_call 23
      refine (HC.out _ B5).mono ?_
      rintro _ w6 ⟨rfl, hb6⟩
      have B6 := B5.trans (hb6.mono B5.size)
      have K6 := K5.below hb6 K5.lt
      go_wp2_with fail
      refine hK.out _ _ (HSB _ B6) (fun hHeld => ?_)
      clear hK K
      try simp only [Act.put, List.setIfInBounds_toArray, List.set_cons_zero, List.set_cons_succ]
      clear hHeld
      have hHeld := HSB _ B6
      refine wpAnyH_take (i := 11) (oi := { dst := some 70, op := Go.Op.move (Go.Operand.tmp 81), type := 38, pos := "ref.go:80", after := #[{ on := 10, ground := Go.Ground.data }], guard := none }) (v := ?_) rfl (by kernel_rfl) (by kernel_rfl) (by kernel_rfl) (fun _ _ _ => np) (Or.inl ⟨by rfl, ?_⟩) (by assumption) ?_
      rotate_left
      · (intro _ hSw; (try dsimp only at hSw); clear hSw; go_simp; try with_reducible rfl)
      try simp only [Act.put, List.setIfInBounds_toArray, List.set_cons_zero, List.set_cons_succ]
      refine wpAnyH_take (i := 12) (oi := { dst := some 82, op := Go.Op.extract (Go.Operand.tmp 70) 0, type := 31, pos := "ref.go:80", after := #[{ on := 11, ground := Go.Ground.data }], guard := none }) (v := ?_) rfl (by kernel_rfl) (by kernel_rfl) (by kernel_rfl) (fun _ _ _ => np) (Or.inl ⟨by rfl, ?_⟩) (by assumption) ?_
      rotate_left
      · (intro _ hSw; (try dsimp only at hSw); clear hSw; go_simp; try with_reducible rfl)
      try simp only [Act.put, List.setIfInBounds_toArray, List.set_cons_zero, List.set_cons_succ]
      refine wpAnyH_take (i := 13) (oi := { dst := some 83, op := Go.Op.extract (Go.Operand.tmp 70) 1, type := 4, pos := "ref.go:80", after := #[{ on := 11, ground := Go.Ground.data }, { on := 15, ground := Go.Ground.gcOnly Go.Departure.lateStores }], guard := none }) (v := ?_) rfl (by kernel_rfl) (by kernel_rfl) (by kernel_rfl) (fun _ _ _ => np) (Or.inl ⟨by rfl, ?_⟩) (by assumption) ?_
      rotate_left
      · (intro _ hSw; (try dsimp only at hSw); clear hSw; go_simp; try with_reducible rfl)
      try simp only [Act.put, List.setIfInBounds_toArray, List.set_cons_zero, List.set_cons_succ]
      have hst := run_storeCells_row (P := Tryd.prog) K6 (cs' := VX) HXI.out (by rw [HXZ.out]; simp) HXO.out
      have B8 := Below.row B6 (Nat.le_refl W0.heap.size) VX
      refine wpAnyH_ready (rs := [15]) (by kernel_rfl) (by simp) ?_
      refine AllReadyH.cons rfl (fun K hK => ?_) AllReadyH.nil
      go_simp
      refine hK.out _ _ (HSB _ B8) (fun hHeld => ?_)
      clear hK K
      try simp only [Act.put, List.setIfInBounds_toArray, List.set_cons_zero, List.set_cons_succ]
      clear hHeld
      have hHeld := HSB _ B8
      refine wpAnyH_take (i := 16) (oi := { dst := some 15, op := Go.Op.assign (Go.Operand.tmp 83), type := 4, pos := "ref.go:80", after := #[{ on := 13, ground := Go.Ground.data }, { on := 15, ground := Go.Ground.chain }, { on := 0, ground := Go.Ground.phase }, { on := 1, ground := Go.Ground.phase }, { on := 2, ground := Go.Ground.phase }, { on := 3, ground := Go.Ground.phase }, { on := 4, ground := Go.Ground.phase }, { on := 5, ground := Go.Ground.phase }, { on := 6, ground := Go.Ground.phase }, { on := 7, ground := Go.Ground.phase }, { on := 8, ground := Go.Ground.phase }, { on := 9, ground := Go.Ground.phase }, { on := 10, ground := Go.Ground.phase }, { on := 11, ground := Go.Ground.phase }, { on := 12, ground := Go.Ground.phase }, { on := 13, ground := Go.Ground.phase }, { on := 14, ground := Go.Ground.phase }, { on := 15, ground := Go.Ground.phase }], guard := none }) (v := ?_) rfl (by kernel_rfl) (by kernel_rfl) (by kernel_rfl) (fun _ _ _ => np) (Or.inl ⟨by rfl, ?_⟩) (by assumption) ?_
      rotate_left
      · (intro _ hSw; (try dsimp only at hSw); clear hSw; go_simp; try with_reducible rfl)
      try simp only [Act.put, List.setIfInBounds_toArray, List.set_cons_zero, List.set_cons_succ]
      refine wpAnyH_done (by kernel_rfl) ?_ _
      refine NoPanic.normal ?_
      go_wp2_with fail
      go_meet
      exact ⟨W0.heap.size, _, rfl, rfl, rfl, Nat.le_refl _, B8, K6.row VX⟩
  case rest =>
    obtain ⟨g12, Y, rfl, rfl, hY, hg12, hby, ky⟩ := hcut
    subst hY
    have HKY := Lib.hid (HK2.out.below hby HK2.out.lt)
    have HBY := Lib.hid (HB2.out.trans (hby.mono HB2.out.size))
    cases q with
    | false =>
      clear HC HXT hby ky
      go_wp2_with (refine wpList_store_row (cs' := Array.replicate 32 (.int .u8 0)) (by rfl) (.tmp 8) (.tmp 86) (by rfl) (by rfl) (by rfl) HKY.out (by simpa using hsz.out) (by simp) z32_all ?_)
      refine bodyPost_ret (v := .tuple #[.agg (Array.replicate 32 (.int .u8 0)), .bool false]) (results_cell_slot hrs.out _ _ _ _ _ _ _ (by rfl) (HKY.out.row (Array.replicate 32 (.int .u8 0))) Tryd.underlying31 rfl (by simpa using hsz.out)) rfl (FoldTo.no HQ.out (Below.row HBY.out (by omega) _))
    | true =>
      have hft := HXT.out rfl
      have hfv : fldV d (a : Int) (N : Int) ds = foldD d a N ds := by unfold fldV; rw [if_pos HQ.out]; rfl
      obtain ⟨V, hV, hvz, hon, hvi⟩ := hash_ok (nodeD L X) (nodeD_len _ _)
      have HV : Hid ((bs (fldV d (a : Int) (N : Int) ds)).toArray = V) := Lib.hid (by rw [hfv, hft]; exact hV)
      have HVZ := Lib.hid hvz; have HON := Lib.hid hon; have HVI := Lib.hid hvi
      have HND : Hid (∀ W, Calls Tryd.prog 20 #[.agg VL, .agg VX] W fun e w' => e = .returned (.agg V) ∧ Below W.heap.size W w') := Lib.hid fun W => by
        have := refNode_any L X W (HL1.out) (HX32.out) (HL2.out) (HXB.out)
        unfold HashTo at this
        rw [HVX.out, HVL.out, hV] at this
        exact this
      have HRX : Hid (Y.rangeAt g12 0 (bs X)) := Lib.hid (by rw [← HVX.out] at ky; exact ky.range)
      have HRLY : Hid (Y.rangeAt bb (oo + l * 32) (bs L)) := Lib.hid fun j v hv => (hby.cell (p := ⟨bb, oo + l * 32 + j, none⟩) hbb).trans (HRR.out j v hv)
      have hg12Y : g12 < Y.heap.size := ky.lt
      have hbbY : bb < Y.heap.size := Nat.lt_of_lt_of_le hbb hby.size
      clear hft hfv hV hvz hon hvi HC HXT hby ky
      go_upto_region 18 with fail
      have HB := Below.drew (Below.refl Y.heap.size Y)
      have hvv := HVZ.out
      have HSB : ∀ (W : World), Below Y.heap.size Y W → W.rangeAt g12 0 (bs X) ∧ W.rangeAt bb (oo + l * 32) (bs L) := fun W hW => ⟨fun j v hv => (hW.cell (p := ⟨g12, 0 + j, none⟩) hg12Y).trans (HRX.out j v hv), fun j v hv => (hW.cell (p := ⟨bb, oo + l * 32 + j, none⟩) hbbY).trans (HRLY.out j v hv)⟩
      refine wp_region_noPanic ?_
      refine wp_region_held_drew (S := fun w' => w'.rangeAt g12 0 (bs X) ∧ w'.rangeAt bb (oo + l * 32) (bs L)) (by kernel_rfl) (HSB _ HB) (fun hHeld => ?_)
      refine wpAnyH_take (i := 0) (oi := { dst := some 87, op := Go.Op.move (Go.Operand.tmp 3), type := 25, pos := "ref.go:84", after := #[], guard := none }) (v := ?_) rfl (by kernel_rfl) (by kernel_rfl) (by kernel_rfl) (fun _ _ _ => np) (Or.inl ⟨by rfl, ?_⟩) (by assumption) ?_
      rotate_left
      · (intro _ hSw; (try dsimp only at hSw); clear hSw; go_simp; try with_reducible rfl)
      try simp only [Act.put, List.setIfInBounds_toArray, List.set_cons_zero, List.set_cons_succ]
      refine wpAnyH_take (i := 1) (oi := { dst := some 88, op := Go.Op.move (Go.Operand.tmp 11), type := 3, pos := "ref.go:84", after := #[], guard := none }) (v := ?_) rfl (by kernel_rfl) (by kernel_rfl) (by kernel_rfl) (fun _ _ _ => np) (Or.inl ⟨by rfl, ?_⟩) (by assumption) ?_
      rotate_left
      · (intro _ hSw; (try dsimp only at hSw); clear hSw; go_simp; try with_reducible rfl)
      try simp only [Act.put, List.setIfInBounds_toArray, List.set_cons_zero, List.set_cons_succ]
      refine wpAnyH_take (i := 2) (oi := { dst := some 89, op := Go.Op.indexAddr 25 (Go.Operand.tmp 87) (Go.Operand.tmp 88), type := 0, pos := "ref.go:84", after := #[{ on := 0, ground := Go.Ground.data }, { on := 1, ground := Go.Ground.data }], guard := none }) (v := ?_) rfl (by kernel_rfl) (by kernel_rfl) (by kernel_rfl) (fun _ _ _ => np) (Or.inl ⟨by rfl, ?_⟩) (by assumption) ?_
      rotate_left
      · (intro _ hSw; (try dsimp only at hSw); clear hSw; go_simp; try with_reducible rfl)
      try simp only [Act.put, List.setIfInBounds_toArray, List.set_cons_zero, List.set_cons_succ]
      refine wpAnyH_take (i := 3) (oi := { dst := some 90, op := Go.Op.load 31 (Go.Operand.tmp 89), type := 31, pos := "ref.go:84", after := #[{ on := 2, ground := Go.Ground.data }], guard := none }) (v := .agg VL) rfl (by kernel_rfl) (by kernel_rfl) (by kernel_rfl) (fun _ _ _ => np) (yieldsIf_loadX (by rfl) 31 (.tmp 89) rfl bb (oo + l * 32) rfl (bs L) VL HVL.out _ (fun w' hS => hS.2) Tryd.underlying31 rfl HIL.out) (by assumption) ?_
      try simp only [Act.put, List.setIfInBounds_toArray, List.set_cons_zero, List.set_cons_succ]
      refine wpAnyH_take (i := 4) (oi := { dst := some 91, op := Go.Op.load 31 (Go.Operand.tmp 14), type := 31, pos := "ref.go:84", after := #[], guard := none }) (v := .agg VX) rfl (by kernel_rfl) (by kernel_rfl) (by kernel_rfl) (fun _ _ _ => np) (yieldsIf_loadX (by rfl) 31 (.tmp 14) rfl g12 0 rfl (bs X) VX HVX.out _ (fun w' hS => hS.1) Tryd.underlying31 rfl HIX.out) (by assumption) ?_
      try simp only [Act.put, List.setIfInBounds_toArray, List.set_cons_zero, List.set_cons_succ]
      refine wpAnyH_ready (rs := [5]) (by kernel_rfl) (by simp) ?_
      refine AllReadyH.cons rfl (fun K hK => ?_) AllReadyH.nil
      go_simp
      go_at_call 20
      refine (HND.out _).mono ?_
      rintro _ w7 ⟨rfl, hb7⟩
      have HB7 := HB.trans (hb7.mono HB.size)
      go_wp2_with fail
      refine hK.out _ _ (HSB _ HB7) (fun hHeld => ?_)
      clear hK K
      try simp only [Act.put, List.setIfInBounds_toArray, List.set_cons_zero, List.set_cons_succ]
      have K7 := HKY.out.below HB7 HKY.out.lt
      have hst := run_storeCells_row (P := Tryd.prog) K7 (cs' := V) HVI.out (by rw [HVZ.out]; simp) HON.out
      have hs0 := HS0.out
      have hHeld2 : (w7.setRow (w.heap.size + 1) V).rangeAt g12 0 (bs X) ∧ (w7.setRow (w.heap.size + 1) V).rangeAt bb (oo + l * 32) (bs L) := ⟨fun j v hv => (World.cell?_of_block (a := ⟨g12, 0 + j, none⟩) (setRow_other w7 (w.heap.size + 1) g12 V (by omega))).trans ((HSB _ HB7).1 j v hv), fun j v hv => (World.cell?_of_block (a := ⟨bb, oo + l * 32 + j, none⟩) (setRow_other w7 (w.heap.size + 1) bb V (by omega))).trans ((HSB _ HB7).2 j v hv)⟩
      refine wpAnyH_ready (rs := [6]) (by kernel_rfl) (by simp) ?_
      refine AllReadyH.cons rfl (fun K hK => ?_) AllReadyH.nil
      go_simp
      refine hK.out _ _ (hHeld2) (fun hHeld => ?_)
      clear hK K
      try simp only [Act.put, List.setIfInBounds_toArray, List.set_cons_zero, List.set_cons_succ]
      clear hHeld
      have hHeld := hHeld2
      refine wpAnyH_take (i := 7) (oi := { dst := some 9, op := Go.Op.assign (Go.Operand.const (Go.Value.bool true)), type := 4, pos := "ref.go:84", after := #[{ on := 6, ground := Go.Ground.chain }, { on := 0, ground := Go.Ground.phase }, { on := 1, ground := Go.Ground.phase }, { on := 2, ground := Go.Ground.phase }, { on := 3, ground := Go.Ground.phase }, { on := 4, ground := Go.Ground.phase }, { on := 5, ground := Go.Ground.phase }, { on := 6, ground := Go.Ground.phase }], guard := none }) (v := ?_) rfl (by kernel_rfl) (by kernel_rfl) (by kernel_rfl) (fun _ _ _ => np) (Or.inl ⟨by rfl, ?_⟩) (by assumption) ?_
      rotate_left
      · (intro _ hSw; (try dsimp only at hSw); clear hSw; go_simp; try with_reducible rfl)
      try simp only [Act.put, List.setIfInBounds_toArray, List.set_cons_zero, List.set_cons_succ]
      refine wpAnyH_done (by kernel_rfl) ?_ _
      refine NoPanic.normal ?_
      have KK := Lib.hid (K7.row V)
      have BB := Lib.hid (Below.row (HBY.out.trans (HB7.mono HBY.out.size)) (show w.heap.size ≤ w.heap.size + 1 by omega) V)
      clear hst K7 hHeld hHeld2 HB HB7 hb7
      go_wp2_with fail
      refine bodyPost_ret (v := .tuple #[.agg V, .bool true]) (results_cell_slot hrs.out _ _ _ _ _ _ _ (by rfl) KK.out Tryd.underlying31 rfl HVI.out) rfl ⟨by rw [HV.out, HQ.out], BB.out⟩
end Go.Proofs.YtkopoepoinkpeaaDoor
