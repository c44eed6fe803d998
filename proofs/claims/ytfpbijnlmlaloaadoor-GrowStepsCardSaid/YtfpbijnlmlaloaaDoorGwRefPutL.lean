/- Contract of the document's put of layer 20, where the first leaves end within the first half. Condition: it holds for that half. -/
import Derived.Test.YtfpbijnlmlaloaaDoorJ39
import Derived.Test.YtfpbijnlmlaloaaDoorGwTogL
namespace Go.Proofs.YtfpbijnlmlaloaaDoor
open Go.RowKit
set_option linter.unusedVariables false
set_option linter.unusedSimpArgs false
set_option maxRecDepth 100000
attribute [local go_sem ↓] Go.wp_at_zero Go.wp_at_succ

def PutC20 (n : Nat) : Prop := ∀ (m : Nat) (a : List Nat) (ds : List (List Nat)) (is : Bool) (A : Option Addr) (c : Nat) (w : World), 1 ≤ m → m ≤ n → n ≤ 1099511627776 → a.length = 32 → (∀ b ∈ a, b < 256) → ds.length ≤ 1000000 → Dg ds → HsAt w A ds → ds.length ≤ c →
    Calls Tryd.prog 22 #[.int .i64 (m : Int), .int .i64 (n : Int), .agg (bs a).toArray, .slice A ds.length c, .bool is] w fun e w' => e = .returned (.agg (bothV (putD m n a ds is)).toArray) ∧ Below w.heap.size w w'
set_option maxHeartbeats 4000000 in
theorem refPut_left (n : Nat) (ih : PutC20 (spl n)) (m : Nat) (a : List Nat) (ds : List (List Nat)) (is : Bool) (A : Option Addr) (c : Nat) (w : World) (h1 : 1 ≤ m) (h2 : 2 ≤ n) (hne : m ≠ n) (hk : m ≤ spl n) (hmax : n ≤ 1099511627776) (h32 : a.length = 32) (hd : ∀ b ∈ a, b < 256)
    (l : Nat) (hm : ds.length = l + 1) (hl61 : l + 1 ≤ 1000000) (hdg : Dg ds) (hat : HsAt w A ds) (hc : ds.length ≤ c) :
    Calls Tryd.prog 22 #[.int .i64 (m : Int), .int .i64 (n : Int), .agg (bs a).toArray, .slice A ds.length c, .bool is] w fun e w' => e = .returned (.agg (bothV (putD m n a ds is)).toArray) ∧ Below w.heap.size w w' := by
  have hz := (zero_of_info info_hash).1
  have hsz := Lib.hid (zero_of_info info_hash).2
  have hzr := (zero_of_info info_both).1
  have hszr := Lib.hid (zero_of_info info_both).2
  obtain ⟨ZB, hZB⟩ : ∃ ZB : Array Value, Array.replicate 64 (.int .u8 0) ++ #[.bool false] = ZB := ⟨_, rfl⟩
  rw [hZB] at hzr
  have hZS : ZB.size = 65 := by rw [← hZB]; simp
  have HZS := Lib.hid hZS
  obtain ⟨VD, hVD, hvz, hon, hvi⟩ := hash_ok a h32
  have b1 := (Below.refl w.heap.size w).alloc (Nat.le_refl _) (.cells VD 33)
  have b2 := b1.alloc b1.size (.cells ZB 44)
  have k1 := (Blk.new w 33 VD).alloc (.cells ZB 44)
  have k2 := Blk.new (w.alloc (.cells VD 33)) 44 ZB
  simp only [World.size_alloc] at k2
  obtain ⟨W0, hW0⟩ : ∃ W0, (w.alloc (.cells VD 33)).alloc (.cells ZB 44) = W0 := ⟨_, rfl⟩
  have hs0 : W0.heap.size = w.heap.size + 1 + 1 := by rw [← hW0]; simp
  rw [hW0] at b2 k1 k2
  rw [hVD]
  have hrd : W0.rangeAt w.heap.size 0 (bs a) := by rw [← hVD] at k1; exact k1.range
  have HAT := Lib.hid (hat.next b2)
  have HB2 := Lib.hid b2; have HK1 := Lib.hid k1; have HK2 := Lib.hid k2; have HS0 := Lib.hid hs0; have HRD := Lib.hid hrd; have HIH := Lib.hid ih; have HDG := Lib.hid hdg; have HD := Lib.hid hd; have H32 := Lib.hid h32
  have HID := Lib.hid (hash_size a h32)
  have HVD := Lib.hid hVD
  obtain ⟨hL1, hL2, hL3⟩ := HDG.out.last (by omega)
  have hdl := dropLast_is ds l hm
  rw [hm, Nat.add_sub_cancel] at hL3
  have hat0 := hat
  obtain ⟨bb, oo, rfl, hbb, hrr⟩ := HAT.out.at_ HDG.out hL3
  have hbbw : bb < w.heap.size := by
    obtain ⟨b', o', e, hb', _⟩ := hat0.at_ HDG.out hL3
    injection e with e
    injection e with e1 e2
    omega
  clear hat0
  have hfo := HAT.out.fore HDG.out (k := l) (by omega)
  have htl : (ds.take l).length = l := by rw [List.length_take]; omega
  have hput := putD_left (a := a) (is := is) hne (by omega : ds.length ≠ 0) hk
  rw [hput]
  obtain ⟨L, hLe⟩ : ∃ L, ds.getLastD [] = L := ⟨_, rfl⟩
  obtain ⟨ps, hps⟩ : ∃ ps, ds.take l = ps := ⟨_, rfl⟩
  have HPG : Hid (Dg ps) := Lib.hid (by rw [← hps]; exact HDG.out.take l)
  rw [hLe] at hL1 hL2 hrr
  rw [hps] at hfo htl hdl
  rw [hdl, hLe]
  obtain ⟨VL, hVL, hlz, hlo, hli⟩ := hash_ok L hL1
  have HVL := Lib.hid hVL; have HLZ := Lib.hid hlz; have HLO := Lib.hid hlo; have HLI := Lib.hid hli
  have HIL := Lib.hid (hash_size L hL1)
  have HRR := Lib.hid hrr; have HFO := Lib.hid hfo; have HTL := Lib.hid htl
  have HL1 := Lib.hid hL1; have HL2 := Lib.hid hL2
  obtain ⟨k, hke⟩ : ∃ k, spl n = k := ⟨_, rfl⟩
  have hkn := spl_lt h2
  rw [hke] at hkn hk HIH ⊢
  obtain ⟨⟨O, X, ok⟩, hOX⟩ : ∃ B, putD m k a ps is = B := ⟨_, rfl⟩
  have hO32 : O.length = 32 := by have := (putD_len k m a ps is H32.out HPG.out).1; rw [hOX] at this; exact this
  have hX32 : X.length = 32 := by have := (putD_len k m a ps is H32.out HPG.out).2; rw [hOX] at this; exact this
  have hXB : ∀ b ∈ X, b < 256 := by have := (putD_byte _ k m a ps is rfl HD.out HPG.out).2; rw [hOX] at this; exact this
  rw [hOX]
  show Calls _ _ _ _ fun e w' => e = .returned (.agg (bothV ⟨O, nodeD X L, ok⟩).toArray) ∧ Below w.heap.size w w'
  obtain ⟨VX, hVX, hxs, hxo, hxi⟩ := bothV_ok O X ok hO32 hX32
  obtain ⟨VO, hVO⟩ : ∃ VO, (bs O).toArray = VO := ⟨_, rfl⟩
  obtain ⟨VN, hVN⟩ : ∃ VN, (bs X).toArray = VN := ⟨_, rfl⟩
  obtain ⟨VQ, hVQ⟩ : ∃ VQ, (bs (nodeD X L)).toArray = VQ := ⟨_, rfl⟩
  obtain ⟨V, hV, hvs, hvo, hvi2⟩ := bothV_ok O (nodeD X L) ok hO32 (nodeD_len _ _)
  have hbd : ∀ W, (Instr.build 44 #[(0, .agg VO), (1, .agg VQ), (2, .bool ok)]).run Tryd.prog W = .ok (.agg V) W := fun W => by
    rw [build_both W VO VQ ok (by rw [← hVO]; simp [bs_length, hO32]) (by rw [← hVQ]; simp [bs_length, nodeD_len]), ← hV, ← hVO, ← hVQ]
    rfl
  rw [hV]
  have HC : Hid (∀ W, Below W0.heap.size W0 W → Calls Tryd.prog 22 #[.int .i64 (m : Int), .int .i64 (k : Int), .agg VD, .slice (some ⟨bb, oo, none⟩) l c, .bool is] W fun e w' => e = .returned (.agg VX) ∧ Below W.heap.size W w') := Lib.hid fun W hW => by
    have := HIH.out m a ps is (some ⟨bb, oo, none⟩) c W h1 hk (by omega) H32.out HD.out (by rw [HTL.out]; omega) HPG.out (HFO.out.next hW) (by rw [HTL.out]; omega)
    rw [HTL.out, hOX, hVX, HVD.out] at this
    exact this
  have HND : Hid (∀ W, Calls Tryd.prog 32 #[.agg VN, .agg VL] W fun e w' => e = .returned (.agg VQ) ∧ Below W.heap.size W w') := Lib.hid fun W => by
    have := refNode_any X L W hX32 HL1.out hXB HL2.out
    unfold HashTo at this
    rw [hVN, HVL.out, hVQ] at this
    exact this
  have HSP := Lib.hid (refSplit_any (n : Int) W0 (by omega) (by omega))
  rw [Int.toNat_natCast, hke] at HSP
  have HVX := Lib.hid hVX; have HXS := Lib.hid hxs; have HXO := Lib.hid hxo; have HXI := Lib.hid hxi
  have HVO := Lib.hid hVO; have HVN := Lib.hid hVN; have HIO := Lib.hid (hash_size O hO32); have HIN := Lib.hid (hash_size X hX32)
  have HVS := Lib.hid hvs; have HVVO := Lib.hid hvo; have HVI := Lib.hid hvi2
  have HBD := Lib.hid hbd
  have HOL : Hid ((bs O).length = 32) := Lib.hid (by rw [bs_length, hO32])
  have HXL : Hid ((bs O ++ bs X).length = 64) := Lib.hid (by rw [List.length_append, bs_length, bs_length, hO32, hX32])
  rw [hm]
  rw [hm] at hc
  have hw1 : IntKind.i64.wrap (((l + 1 : Nat) : Int) - 1) = (l : Int) := by rw [show ((l + 1 : Nat) : Int) - 1 = (l : Int) by omega]; exact IntWalk.i64_in _ (by omega)
  have hw1' : IntKind.i64.wrap ((l : Int) + 1 - 1) = (l : Int) := by rw [show (l : Int) + 1 - 1 = (l : Int) by omega]; exact IntWalk.i64_in _ (by omega)
  have hn1 : ¬ (m : Int) = (n : Int) := by omega
  have q1 : (l : Int) ≤ (c : Int) := by omega
  have q2 : (l : Int) < (l : Int) + 1 := by omega
  have q3 : ¬ (l : Int) + 1 = 0 := by omega
  have hkI : (m : Int) ≤ (k : Int) := by omega
  clear b1 b2 k1 k2 hs0 hrd ih hdg hd h32 hVD hvz hon hvi hat hVL hlz hlo hli hrr hfo htl hdl hLe hps hL1 hL2 hL3 hm hput hOX hO32 hX32 hXB hVX hxs hxo hxi hVO hVN hVQ hV hvs hvo hvi2 hbd hke hZB hZS
  go_enter Tryd.func22, Tryd.ntmps22
  go_wp2_with fail
  refine HSP.out.mono ?_
  rintro _ _ ⟨rfl, rfl⟩
  go_upto_region 11 with fail
  try clear hW0
  go_cut [13] (fun s13 wx => ∃ g13 Y, s13 = .pointer (some ⟨g13, 0, none⟩) ∧ Y = wx ∧ W0.heap.size ≤ g13 ∧ Below W0.heap.size W0 Y ∧ Blk Y g13 44 VX)
  case first =>
    have HSB : ∀ (W : World), Below W0.heap.size W0 W → W.rangeAt w.heap.size 0 (bs a) := fun W hW => range_next HRD.out HK1.out.lt hW
    have HB := Below.drew (Below.refl W0.heap.size W0)
    have hvv := HXS.out
    refine wp_region_noPanic ?_
    refine wp_region_held_drew (S := fun w' => w'.rangeAt w.heap.size 0 (bs a)) (by kernel_rfl) (HSB _ HB) (fun hHeld => ?_)
    refine wpAnyH_take (i := 0) (oi := { dst := some 49, op := Go.Op.move (Go.Operand.tmp 0), type := 3, pos := "ref.go:54", after := #[], guard := none }) (v := ?_) rfl (by kernel_rfl) (by kernel_rfl) (by kernel_rfl) (fun _ _ _ => np) (Or.inl ⟨by rfl, ?_⟩) (by assumption) ?_
    rotate_left
    · (intro _ hSw; (try dsimp only at hSw); clear hSw; go_simp; try with_reducible rfl)
    try simp only [Act.put, List.setIfInBounds_toArray, List.set_cons_zero, List.set_cons_succ]
    refine wpAnyH_take (i := 1) (oi := { dst := some 50, op := Go.Op.move (Go.Operand.tmp 11), type := 3, pos := "ref.go:54", after := #[], guard := none }) (v := ?_) rfl (by kernel_rfl) (by kernel_rfl) (by kernel_rfl) (fun _ _ _ => np) (Or.inl ⟨by rfl, ?_⟩) (by assumption) ?_
    rotate_left
    · (intro _ hSw; (try dsimp only at hSw); clear hSw; go_simp; try with_reducible rfl)
    try simp only [Act.put, List.setIfInBounds_toArray, List.set_cons_zero, List.set_cons_succ]
    refine wpAnyH_take (i := 3) (oi := { dst := some 52, op := Go.Op.move (Go.Operand.tmp 3), type := 25, pos := "ref.go:54", after := #[], guard := none }) (v := ?_) rfl (by kernel_rfl) (by kernel_rfl) (by kernel_rfl) (fun _ _ _ => np) (Or.inl ⟨by rfl, ?_⟩) (by assumption) ?_
    rotate_left
    · (intro _ hSw; (try dsimp only at hSw); clear hSw; go_simp; try with_reducible rfl)
    try simp only [Act.put, List.setIfInBounds_toArray, List.set_cons_zero, List.set_cons_succ]
    refine wpAnyH_take (i := 4) (oi := { dst := some 53, op := Go.Op.move (Go.Operand.tmp 12), type := 3, pos := "ref.go:54", after := #[], guard := none }) (v := ?_) rfl (by kernel_rfl) (by kernel_rfl) (by kernel_rfl) (fun _ _ _ => np) (Or.inl ⟨by rfl, ?_⟩) (by assumption) ?_
    rotate_left
    · (intro _ hSw; (try dsimp only at hSw); clear hSw; go_simp; try with_reducible rfl)
    try simp only [Act.put, List.setIfInBounds_toArray, List.set_cons_zero, List.set_cons_succ]
    refine wpAnyH_take (i := 5) (oi := { dst := some 54, op := Go.Op.slice 25 (Go.Operand.tmp 52) none (some (Go.Operand.tmp 53)) none, type := 25, pos := "ref.go:54", after := #[{ on := 3, ground := Go.Ground.data }, { on := 4, ground := Go.Ground.data }], guard := none }) (v := ?_) rfl (by kernel_rfl) (by kernel_rfl) (by kernel_rfl) (fun _ _ _ => np) (Or.inl ⟨by rfl, ?_⟩) (by assumption) ?_
    rotate_left
    · (intro _ hSw; (try dsimp only at hSw); clear hSw; go_simp; try with_reducible rfl)
    try simp only [Act.put, List.setIfInBounds_toArray, List.set_cons_zero, List.set_cons_succ]
    refine wpAnyH_take (i := 6) (oi := { dst := some 55, op := Go.Op.move (Go.Operand.tmp 4), type := 4, pos := "ref.go:54", after := #[], guard := none }) (v := ?_) rfl (by kernel_rfl) (by kernel_rfl) (by kernel_rfl) (fun _ _ _ => np) (Or.inl ⟨by rfl, ?_⟩) (by assumption) ?_
    rotate_left
    · (intro _ hSw; (try dsimp only at hSw); clear hSw; go_simp; try with_reducible rfl)
    try simp only [Act.put, List.setIfInBounds_toArray, List.set_cons_zero, List.set_cons_succ]
    refine wpAnyH_take (i := 2) (oi := { dst := some 51, op := Go.Op.load 33 (Go.Operand.tmp 7), type := 33, pos := "ref.go:54", after := #[], guard := none }) (v := .agg VD) rfl (by kernel_rfl) (by kernel_rfl) (by kernel_rfl) (fun _ _ _ => np) (yieldsIf_loadX (by rfl) 33 (.tmp 7) rfl w.heap.size 0 rfl (bs a) VD HVD.out _ (fun w' hS => hS) Tryd.underlying33 rfl HID.out) (by assumption) ?_
    try simp only [Act.put, List.setIfInBounds_toArray, List.set_cons_zero, List.set_cons_succ]
    refine wpAnyH_ready (rs := [7, 8]) (by kernel_rfl) (by simp) ?_
    refine AllReadyH.cons (o := { dst := some 56, op := Go.Op.call { callee := Go.Callee.value (Go.Operand.func 22), args := #[Go.Operand.tmp 49, Go.Operand.tmp 50, Go.Operand.tmp 51, Go.Operand.tmp 54, Go.Operand.tmp 55], argTypes := #[3, 3, 33, 25, 4] }, type := 44, pos := "ref.go:54", after := #[{ on := 0, ground := Go.Ground.data }, { on := 1, ground := Go.Ground.data }, { on := 2, ground := Go.Ground.data }, { on := 5, ground := Go.Ground.data }, { on := 6, ground := Go.Ground.data }], guard := none }) rfl (fun K hK => ?_) (AllReadyH.cons (o := { dst := some 13, op := Go.Op.alloc 44, type := 0, pos := "ref.go:54", after := #[], guard := none }) rfl (fun K hK => ?_) AllReadyH.nil)
    · go_simp
      go_at_call 22
      refine (HC.out _ HB).mono ?_
      rintro _ w6 ⟨rfl, hb6⟩
      have HB6 := HB.trans (hb6.mono HB.size)
      go_wp2_with fail
      refine hK.out _ _ (HSB _ HB6) (fun hHeld => ?_)
      clear hK K
      try simp only [Act.put, List.setIfInBounds_toArray, List.set_cons_zero, List.set_cons_succ]
      have B7 := HB6.alloc HB6.size (.cells ZB 44)
      have K7 := Blk.new w6 44 ZB
      refine wpAnyH_ready (rs := [8]) (by kernel_rfl) (by simp) ?_
      refine AllReadyH.cons rfl (fun K hK => ?_) AllReadyH.nil
      go_simp
      refine hK.out _ _ (HSB _ B7) (fun hHeld => ?_)
      clear hK K
      try simp only [Act.put, List.setIfInBounds_toArray, List.set_cons_zero, List.set_cons_succ]
      have hst := run_storeCells_row (P := Tryd.prog) K7 (cs' := VX) HXI.out (by rw [HXS.out, HZS.out]) HXO.out
      have B8 := Below.row B7 HB6.size VX
      refine wpAnyH_ready (rs := [9]) (by kernel_rfl) (by simp) ?_
      refine AllReadyH.cons rfl (fun K hK => ?_) AllReadyH.nil
      go_simp
      refine hK.out _ _ (HSB _ B8) (fun hHeld => ?_)
      clear hK K
      try simp only [Act.put, List.setIfInBounds_toArray, List.set_cons_zero, List.set_cons_succ]
      refine wpAnyH_done (by kernel_rfl) ?_ _
      refine NoPanic.normal ?_
      go_wp2_with fail
      go_meet
      exact ⟨w6.heap.size, _, rfl, rfl, HB6.size, B8, K7.row VX⟩
    · have B5 := Below.drew ((Below.refl W0.heap.size W0).alloc (Nat.le_refl _) (.cells ZB 44))
      have K5 := (Blk.new W0 44 ZB).drew
      go_simp
      refine hK.out _ _ (HSB _ B5) (fun hHeld => ?_)
      clear hK K
      try simp only [Act.put, List.setIfInBounds_toArray, List.set_cons_zero, List.set_cons_succ]
      obtain ⟨W5, hW5⟩ : ∃ W5, (W0.alloc (.cells ZB 44)).drew = W5 := ⟨_, rfl⟩
      rw [hW5] at B5 K5 ⊢
      clear hW5
      refine wpAnyH_ready (rs := [7]) (by kernel_rfl) (by simp) ?_
      refine AllReadyH.cons rfl (fun K hK => ?_) AllReadyH.nil
      go_simp
      go_at_call 22
      refine (HC.out _ B5).mono ?_
      rintro _ w6 ⟨rfl, hb6⟩
      have B6 := B5.trans (hb6.mono B5.size)
      have K6 := K5.below hb6 K5.lt
      go_wp2_with fail
      refine hK.out _ _ (HSB _ B6) (fun hHeld => ?_)
      clear hK K
      try simp only [Act.put, List.setIfInBounds_toArray, List.set_cons_zero, List.set_cons_succ]
      have hst := run_storeCells_row (P := Tryd.prog) K6 (cs' := VX) HXI.out (by rw [HXS.out, HZS.out]) HXO.out
      have B8 := Below.row B6 (Nat.le_refl W0.heap.size) VX
      refine wpAnyH_ready (rs := [9]) (by kernel_rfl) (by simp) ?_
      refine AllReadyH.cons rfl (fun K hK => ?_) AllReadyH.nil
      go_simp
      refine hK.out _ _ (HSB _ B8) (fun hHeld => ?_)
      clear hK K
      try simp only [Act.put, List.setIfInBounds_toArray, List.set_cons_zero, List.set_cons_succ]
      refine wpAnyH_done (by kernel_rfl) ?_ _
      refine NoPanic.normal ?_
      go_wp2_with fail
      go_meet
      exact ⟨W0.heap.size, _, rfl, rfl, Nat.le_refl _, B8, K6.row VX⟩
  case rest =>
    obtain ⟨g, W3, rfl, hY, hg, b3, k3⟩ := hcut
    subst hY
    have hss := HS0.out
    have k8 := HK2.out.below b3 HK2.out.lt
    have hk4r : W3.rangeAt g 0 ((bs O ++ bs X) ++ [.bool ok]) := by rw [← HVX.out] at k3; exact k3.range
    obtain ⟨rox, rk⟩ := range_two hk4r
    obtain ⟨ro, rx⟩ := range_two rox
    rw [HOL.out] at rx
    rw [HXL.out] at rk
    have rl := range_next HRR.out hbb b3
    have hg3 : g < W3.heap.size := k3.lt
    have hbb3 : bb < W3.heap.size := by have := b3.size; omega
    have HSB : ∀ (W : World), Below W3.heap.size W3 W → W.rangeAt g 0 (bs O) ∧ W.rangeAt g 32 (bs X) ∧ W.rangeAt bb (oo + l * 32) (bs L) ∧ W.cell? ⟨g, 64, none⟩ = some (.bool ok) := fun W hW => ⟨range_next ro hg3 hW, range_next rx hg3 hW, range_next rl hbb3 hW, range_next rk hg3 hW 0 _ rfl⟩
    have HSR : ∀ (W : World), Below W3.heap.size W3 W → (W.setRow (w.heap.size + 1) V).rangeAt g 0 (bs O) ∧ (W.setRow (w.heap.size + 1) V).rangeAt g 32 (bs X) ∧ (W.setRow (w.heap.size + 1) V).rangeAt bb (oo + l * 32) (bs L) ∧ (W.setRow (w.heap.size + 1) V).cell? ⟨g, 64, none⟩ = some (.bool ok) := fun W hW => ⟨range_row V (HSB W hW).1 (by omega), range_row V (HSB W hW).2.1 (by omega), range_row V (HSB W hW).2.2.1 (by omega), range_row V (range_next rk hg3 hW) (by omega) 0 _ rfl⟩
    have HB3 := Lib.hid (HB2.out.trans (b3.mono HB2.out.size))
    clear hk4r rox ro rx rl k3 b3
    go_upto_region 12 with fail
    have HB := Below.drew (Below.refl W3.heap.size W3)
    refine wp_region_noPanic ?_
    refine wp_region_held_drew (S := fun w' => w'.rangeAt g 0 (bs O) ∧ w'.rangeAt g 32 (bs X) ∧ w'.rangeAt bb (oo + l * 32) (bs L) ∧ w'.cell? ⟨g, 64, none⟩ = some (.bool ok)) (by kernel_rfl) (HSB _ HB) (fun hHeld => ?_)
    refine wpAnyH_take (i := 0) (oi := { dst := some 57, op := Go.Op.fieldAddr 44 (Go.Operand.tmp 13) 0, type := 0, pos := "ref.go:55", after := #[], guard := none }) (v := ?_) rfl (by kernel_rfl) (by kernel_rfl) (by kernel_rfl) (fun _ _ _ => np) (Or.inl ⟨by rfl, ?_⟩) (by assumption) ?_
    rotate_left
    · (intro _ hSw; (try dsimp only at hSw); clear hSw; go_simp; try with_reducible rfl)
    try simp only [Act.put, List.setIfInBounds_toArray, List.set_cons_zero, List.set_cons_succ]
    refine wpAnyH_take (i := 2) (oi := { dst := some 59, op := Go.Op.fieldAddr 44 (Go.Operand.tmp 13) 1, type := 0, pos := "ref.go:55", after := #[], guard := none }) (v := ?_) rfl (by kernel_rfl) (by kernel_rfl) (by kernel_rfl) (fun _ _ _ => np) (Or.inl ⟨by rfl, ?_⟩) (by assumption) ?_
    rotate_left
    · (intro _ hSw; (try dsimp only at hSw); clear hSw; go_simp; try with_reducible rfl)
    try simp only [Act.put, List.setIfInBounds_toArray, List.set_cons_zero, List.set_cons_succ]
    refine wpAnyH_take (i := 4) (oi := { dst := some 61, op := Go.Op.move (Go.Operand.tmp 3), type := 25, pos := "ref.go:55", after := #[], guard := none }) (v := ?_) rfl (by kernel_rfl) (by kernel_rfl) (by kernel_rfl) (fun _ _ _ => np) (Or.inl ⟨by rfl, ?_⟩) (by assumption) ?_
    rotate_left
    · (intro _ hSw; (try dsimp only at hSw); clear hSw; go_simp; try with_reducible rfl)
    try simp only [Act.put, List.setIfInBounds_toArray, List.set_cons_zero, List.set_cons_succ]
    refine wpAnyH_take (i := 5) (oi := { dst := some 62, op := Go.Op.move (Go.Operand.tmp 12), type := 3, pos := "ref.go:55", after := #[], guard := none }) (v := ?_) rfl (by kernel_rfl) (by kernel_rfl) (by kernel_rfl) (fun _ _ _ => np) (Or.inl ⟨by rfl, ?_⟩) (by assumption) ?_
    rotate_left
    · (intro _ hSw; (try dsimp only at hSw); clear hSw; go_simp; try with_reducible rfl)
    try simp only [Act.put, List.setIfInBounds_toArray, List.set_cons_zero, List.set_cons_succ]
    refine wpAnyH_take (i := 6) (oi := { dst := some 63, op := Go.Op.indexAddr 25 (Go.Operand.tmp 61) (Go.Operand.tmp 62), type := 0, pos := "ref.go:55", after := #[{ on := 4, ground := Go.Ground.data }, { on := 5, ground := Go.Ground.data }], guard := none }) (v := ?_) rfl (by kernel_rfl) (by kernel_rfl) (by kernel_rfl) (fun _ _ _ => np) (Or.inl ⟨by rfl, ?_⟩) (by assumption) ?_
    rotate_left
    · (intro _ hSw; (try dsimp only at hSw); clear hSw; go_simp; try with_reducible rfl)
    try simp only [Act.put, List.setIfInBounds_toArray, List.set_cons_zero, List.set_cons_succ]
    refine wpAnyH_take (i := 9) (oi := { dst := some 66, op := Go.Op.fieldAddr 44 (Go.Operand.tmp 13) 2, type := 0, pos := "ref.go:55", after := #[], guard := none }) (v := ?_) rfl (by kernel_rfl) (by kernel_rfl) (by kernel_rfl) (fun _ _ _ => np) (Or.inl ⟨by rfl, ?_⟩) (by assumption) ?_
    rotate_left
    · (intro _ hSw; (try dsimp only at hSw); clear hSw; go_simp; try with_reducible rfl)
    try simp only [Act.put, List.setIfInBounds_toArray, List.set_cons_zero, List.set_cons_succ]
    refine wpAnyH_take (i := 1) (oi := { dst := some 58, op := Go.Op.load 33 (Go.Operand.tmp 57), type := 33, pos := "ref.go:55", after := #[{ on := 0, ground := Go.Ground.data }], guard := none }) (v := .agg VO) rfl (by kernel_rfl) (by kernel_rfl) (by kernel_rfl) (fun _ _ _ => np) (yieldsIf_loadX (by rfl) 33 (.tmp 57) rfl g 0 rfl (bs O) VO HVO.out _ (fun w' hS => hS.1) Tryd.underlying33 rfl HIO.out) (by assumption) ?_
    try simp only [Act.put, List.setIfInBounds_toArray, List.set_cons_zero, List.set_cons_succ]
    refine wpAnyH_take (i := 3) (oi := { dst := some 60, op := Go.Op.load 33 (Go.Operand.tmp 59), type := 33, pos := "ref.go:55", after := #[{ on := 2, ground := Go.Ground.data }], guard := none }) (v := .agg VN) rfl (by kernel_rfl) (by kernel_rfl) (by kernel_rfl) (fun _ _ _ => np) (yieldsIf_loadX (by rfl) 33 (.tmp 59) rfl g 32 rfl (bs X) VN HVN.out _ (fun w' hS => hS.2.1) Tryd.underlying33 rfl HIN.out) (by assumption) ?_
    try simp only [Act.put, List.setIfInBounds_toArray, List.set_cons_zero, List.set_cons_succ]
    refine wpAnyH_take (i := 7) (oi := { dst := some 64, op := Go.Op.load 33 (Go.Operand.tmp 63), type := 33, pos := "ref.go:55", after := #[{ on := 6, ground := Go.Ground.data }], guard := none }) (v := .agg VL) rfl (by kernel_rfl) (by kernel_rfl) (by kernel_rfl) (fun _ _ _ => np) (yieldsIf_loadX (by rfl) 33 (.tmp 63) rfl bb (oo + l * 32) rfl (bs L) VL HVL.out _ (fun w' hS => hS.2.2.1) Tryd.underlying33 rfl HIL.out) (by assumption) ?_
    try simp only [Act.put, List.setIfInBounds_toArray, List.set_cons_zero, List.set_cons_succ]
    refine wpAnyH_take (i := 10) (oi := { dst := some 67, op := Go.Op.load 4 (Go.Operand.tmp 66), type := 4, pos := "ref.go:55", after := #[{ on := 9, ground := Go.Ground.data }], guard := none }) (v := .bool ok) rfl (by kernel_rfl) (by kernel_rfl) (by kernel_rfl) (fun _ _ _ => np) (Or.inl ⟨by rfl, ?_⟩) (by assumption) ?_
    · (intro W hS; have hcl := (hS.2.2.2); clear hS; go_simp; try with_reducible rfl)
    try simp only [Act.put, List.setIfInBounds_toArray, List.set_cons_zero, List.set_cons_succ]
    refine wpAnyH_ready (rs := [8]) (by kernel_rfl) (by simp) ?_
    refine AllReadyH.cons rfl (fun K hK => ?_) AllReadyH.nil
    go_simp
    go_at_call 32
    refine (HND.out _).mono ?_
    rintro _ w7 ⟨rfl, hb7⟩
    have HB7 := HB.trans (hb7.mono HB.size)
    go_wp2_with fail
    refine hK.out _ _ (HSB _ HB7) (fun hHeld => ?_)
    clear hK K
    try simp only [Act.put, List.setIfInBounds_toArray, List.set_cons_zero, List.set_cons_succ]
    refine wpAnyH_ready (rs := [11]) (by kernel_rfl) (by simp) ?_
    refine AllReadyH.cons rfl (fun K hK => ?_) AllReadyH.nil
    refine wp_buildV 44 #[(0, .tmp 58), (1, .tmp 65), (2, .tmp 67)] rfl #[(0, .agg VO), (1, .agg VQ), (2, .bool ok)] (by first | rfl | (simp [Act.eval, Act.put]; done) | simp [Act.eval]) _ (HBD.out _) ?_
    refine hK.out _ _ (HSB _ HB7) (fun hHeld => ?_)
    clear hK K
    try simp only [Act.put, List.setIfInBounds_toArray, List.set_cons_zero, List.set_cons_succ]
    have K7 := k8.below HB7 k8.lt
    have hst := run_storeCells_row (P := Tryd.prog) K7 (cs' := V) HVI.out (by rw [HVS.out, HZS.out]) HVVO.out
    have hvv := HVS.out
    refine wpAnyH_ready (rs := [12]) (by kernel_rfl) (by simp) ?_
    refine AllReadyH.cons rfl (fun K hK => ?_) AllReadyH.nil
    go_simp
    refine hK.out _ _ (HSR _ HB7) (fun hHeld => ?_)
    clear hK K
    try simp only [Act.put, List.setIfInBounds_toArray, List.set_cons_zero, List.set_cons_succ]
    refine wpAnyH_done (by kernel_rfl) ?_ _
    refine NoPanic.normal ?_
    have KK := Lib.hid (K7.row V)
    have BB := Lib.hid (Below.row ((HB3.out.trans (HB7.mono HB3.out.size))) (show w.heap.size ≤ w.heap.size + 1 by omega) V)
    clear hst K7 hHeld HB HB7 hb7 k8 HSB HSR
    go_wp2_with fail
    exact bodyPost_ret (v := .agg V) (results_cell_row rfl _ _ _ _ _ _ _ (by rfl) KK.out Tryd.underlying44 rfl HVI.out) rfl ⟨rfl, BB.out⟩
end Go.Proofs.YtfpbijnlmlaloaaDoor
