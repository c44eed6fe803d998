/- Contract of package grow's together, where the first leaves end within the first half. Condition: it holds for that half. -/
import Derived.Test.YtfpbijnlmlaloaaDoorGwTog
import Derived.Test.YtfpbijnlmlaloaaDoorJ41
namespace Go.Proofs.YtfpbijnlmlaloaaDoor
open Go.RowKit
set_option linter.unusedVariables false
set_option linter.unusedSimpArgs false
set_option maxRecDepth 100000
attribute [local go_sem ↓] Go.wp_at_zero Go.wp_at_succ

theorem range_two {w : World} {g : Nat} {xs ys : List Value} (h : w.rangeAt g 0 (xs ++ ys)) : w.rangeAt g 0 xs ∧ w.rangeAt g xs.length ys := by
  constructor
  · intro j v hv
    exact h j v (by rw [List.getElem?_append_left (List.getElem?_eq_some_iff.1 hv).1]; exact hv)
  · intro j v hv
    have := h (xs.length + j) v (by rw [List.getElem?_append_right (by omega)]; simpa using hv)
    rw [Nat.zero_add] at this
    exact this
theorem range_row {W : World} {g b o : Nat} {cs : List Value} (V : Array Value) (h : W.rangeAt b o cs) (hne : b ≠ g) : (W.setRow g V).rangeAt b o cs :=
  fun j v hv => (World.cell?_of_block (a := ⟨b, o + j, none⟩) (setRow_other W g b V (by omega))).trans (h j v hv)
theorem range_next {W W' : World} {b o : Nat} {cs : List Value} (h : W.rangeAt b o cs) (hb : b < W.heap.size) (hw : Below W.heap.size W W') : W'.rangeAt b o cs :=
  fun j v hv => (hw.cell (p := ⟨b, o + j, none⟩) hb).trans (h j v hv)
theorem putD_byte : ∀ (N n m : Nat) (a : List Nat) (p : List (List Nat)) (is : Bool), p.length = N → (∀ b ∈ a, b < 256) → Dg p → (∀ b ∈ (putD m n a p is).old, b < 256) ∧ (∀ b ∈ (putD m n a p is).new, b < 256) := by
  intro N
  induction N using Nat.strongRecOn with
  | _ N ih =>
    intro n m a p is hpl ha hd
    have hz : ∀ b ∈ zD, b < 256 := by decide
    by_cases he : m = n
    · rw [putD_same m n a p is he]
      cases is with
      | false => exact ⟨ha, ha⟩
      | true =>
        by_cases hp : p.length = 1
        · obtain ⟨d, rfl⟩ : ∃ d, p = [d] := by
            match p, hp with
            | [d], _ => exact ⟨d, rfl⟩
          have := (hd d (by simp)).2
          exact ⟨this, this⟩
        · rw [if_pos rfl, if_neg hp]
          exact ⟨hz, hz⟩
    · by_cases hp : p.length = 0
      · rw [putD_none m n a p is he hp]
        exact ⟨hz, hz⟩
      · have hdl : Dg p.dropLast := fun d h => hd d (List.dropLast_subset p h)
        by_cases hk : m ≤ spl n
        · rw [putD_left he hp hk]
          exact ⟨(ih (N - 1) (by omega) (spl n) m a p.dropLast is (by rw [List.length_dropLast, hpl]) ha hdl).1, shaN_lt _⟩
        · rw [putD_right he hp hk]
          exact ⟨shaN_lt _, shaN_lt _⟩
def TogC (n : Nat) : Prop := ∀ (m : Nat) (a : List Nat) (ds : List (List Nat)) (is : Bool) (A : Option Addr) (c : Nat) (w : World), 1 ≤ m → m ≤ n → n ≤ 1152921504606846976 → a.length = 32 → (∀ b ∈ a, b < 256) → ds.length = szD m n is → Dg ds → HsAt w A ds → ds.length ≤ c → ShTab w →
    Calls Tryd.prog 20 #[.int .i64 (m : Int), .int .i64 (n : Int), .agg (bs a).toArray, .slice A ds.length c] w (RootsTo w (putD m n a ds is).old (putD m n a ds is).new)
set_option maxHeartbeats 4000000 in
theorem tog_left (n : Nat) (ih : TogC (spl n)) (m : Nat) (a : List Nat) (ds : List (List Nat)) (is : Bool) (A : Option Addr) (c : Nat) (w : World) (h1 : 1 ≤ m) (h2 : 2 ≤ n) (hne : m ≠ n) (hk : m ≤ spl n) (hmax : n ≤ 1152921504606846976) (h32 : a.length = 32) (hd : ∀ b ∈ a, b < 256)
    (hlen : ds.length = szD m n is) (hdg : Dg ds) (hat : HsAt w A ds) (hc : ds.length ≤ c) (ht : ShTab w) :
    Calls Tryd.prog 20 #[.int .i64 (m : Int), .int .i64 (n : Int), .agg (bs a).toArray, .slice A ds.length c] w (RootsTo w (putD m n a ds is).old (putD m n a ds is).new) := by
  have hz := (zero_of_info info_hash).1
  have hsz := Lib.hid (zero_of_info info_hash).2
  have hzr := (zero_of_info info_roots).1
  have hszr := Lib.hid (zero_of_info info_roots).2
  obtain ⟨ZB, hZB⟩ : ∃ ZB : Array Value, Array.replicate 64 (.int .u8 0) = ZB := ⟨_, rfl⟩
  rw [hZB] at hzr
  have hZS : ZB.size = 64 := by rw [← hZB]; simp
  have HZS := Lib.hid hZS
  obtain ⟨VD, hVD, hvz, hon, hvi⟩ := hash_ok a h32
  have b1 := (Below.refl w.heap.size w).alloc (Nat.le_refl _) (.cells VD 33)
  have b2 := b1.alloc b1.size (.cells ZB 41)
  have k1 := (Blk.new w 33 VD).alloc (.cells ZB 41)
  have k2 := Blk.new (w.alloc (.cells VD 33)) 41 ZB
  simp only [World.size_alloc] at k2
  obtain ⟨W0, hW0⟩ : ∃ W0, (w.alloc (.cells VD 33)).alloc (.cells ZB 41) = W0 := ⟨_, rfl⟩
  have hs0 : W0.heap.size = w.heap.size + 1 + 1 := by rw [← hW0]; simp
  rw [hW0] at b2 k1 k2
  rw [hVD]
  have hrd : W0.rangeAt w.heap.size 0 (bs a) := by rw [← hVD] at k1; exact k1.range
  have HAT := Lib.hid (hat.next b2)
  have HT := Lib.hid (ht.next b2)
  have HB2 := Lib.hid b2; have HK1 := Lib.hid k1; have HK2 := Lib.hid k2; have HS0 := Lib.hid hs0; have HRD := Lib.hid hrd; have HIH := Lib.hid ih; have HDG := Lib.hid hdg; have HD := Lib.hid hd; have H32 := Lib.hid h32
  have HID := Lib.hid (hash_size a h32)
  have HVD := Lib.hid hVD
  obtain ⟨l, hm⟩ : ∃ l, ds.length = l + 1 := ⟨_, hlen.trans (szD_left is h2 hne hk)⟩
  have hl61 : l ≤ 61 := by
    have := szD_le 60 (spl n) m is (by have := spl_lt h2; omega) h1 hk
    have := szD_left is h2 hne hk
    omega
  have hpsz : l = szD m (spl n) is := by
    have := szD_left is h2 hne hk
    omega
  obtain ⟨hL1, hL2, hL3⟩ := HDG.out.last (by omega)
  have hdl := dropLast_is ds l hm
  rw [hm, Nat.add_sub_cancel] at hL3
  obtain ⟨bb, oo, rfl, hbb, hrr⟩ := HAT.out.at_ HDG.out hL3
  have hfo := HAT.out.fore HDG.out (k := l) (by omega)
  have htl : (ds.take l).length = l := by rw [List.length_take]; omega
  have hput := putD_left (a := a) (is := is) hne (by omega : ds.length ≠ 0) hk
  rw [hput]
  obtain ⟨L, hLe⟩ : ∃ L, ds.getLastD [] = L := ⟨_, rfl⟩
  obtain ⟨ps, hps⟩ : ∃ ps, ds.take l = ps := ⟨_, rfl⟩
  have HPG : Hid (Dg ps) := Lib.hid (by rw [← hps]; exact HDG.out.take l)
  rw [hLe] at hL1 hL2 hrr
  rw [hps] at hfo htl hdl
  rw [hdl, hLe]
  obtain ⟨VL, hVL, hlz, hlo, hli⟩ := hash_ok L hL1
  have HVL := Lib.hid hVL; have HLZ := Lib.hid hlz; have HLO := Lib.hid hlo; have HLI := Lib.hid hli
  have HIL := Lib.hid (hash_size L hL1)
  have HRR := Lib.hid hrr; have HFO := Lib.hid hfo; have HTL := Lib.hid htl
  have HL1 := Lib.hid hL1; have HL2 := Lib.hid hL2
  obtain ⟨k, hke⟩ : ∃ k, spl n = k := ⟨_, rfl⟩
  have hkn := spl_lt h2
  rw [hke] at hkn hk hpsz HIH ⊢
  obtain ⟨O, hO⟩ : ∃ O, (putD m k a ps is).old = O := ⟨_, rfl⟩
  obtain ⟨X, hX⟩ : ∃ X, (putD m k a ps is).new = X := ⟨_, rfl⟩
  have hO32 : O.length = 32 := by rw [← hO]; exact (putD_len k m a ps is H32.out HPG.out).1
  have hX32 : X.length = 32 := by rw [← hX]; exact (putD_len k m a ps is H32.out HPG.out).2
  have hXB : ∀ b ∈ X, b < 256 := by rw [← hX]; exact (putD_byte _ k m a ps is rfl HD.out HPG.out).2
  rw [hO, hX]
  obtain ⟨VX, hVX, hxs, hxo, hxi⟩ := rootsV_ok O X hO32 hX32
  obtain ⟨VO, hVO⟩ : ∃ VO, (bs O).toArray = VO := ⟨_, rfl⟩
  obtain ⟨VN, hVN⟩ : ∃ VN, (bs X).toArray = VN := ⟨_, rfl⟩
  obtain ⟨VQ, hVQ⟩ : ∃ VQ, (bs (nodeD X L)).toArray = VQ := ⟨_, rfl⟩
  obtain ⟨V, hV, hvs, hvo, hvi2⟩ := rootsV_ok O (nodeD X L) hO32 (nodeD_len _ _)
  have hbd : ∀ W, (Instr.build 41 #[(0, .agg VO), (1, .agg VQ)]).run Tryd.prog W = .ok (.agg V) W := fun W => by
    rw [build_roots W VO VQ (by rw [← hVO]; simp [bs_length, hO32]) (by rw [← hVQ]; simp [bs_length, nodeD_len]), ← hV, ← hVO, ← hVQ]
    rfl
  unfold RootsTo
  rw [hV]
  have HC : Hid (∀ W, Below W0.heap.size W0 W → Calls Tryd.prog 20 #[.int .i64 (m : Int), .int .i64 (k : Int), .agg VD, .slice (some ⟨bb, oo, none⟩) l c] W fun e w' => e = .returned (.agg VX) ∧ Below W.heap.size W w') := Lib.hid fun W hW => by
    have := HIH.out m a ps is (some ⟨bb, oo, none⟩) c W h1 hk (by omega) H32.out HD.out (by rw [HTL.out]; exact hpsz) HPG.out (HFO.out.next hW) (by rw [HTL.out]; omega) (HT.out.next hW)
    unfold RootsTo at this
    rw [HTL.out, hO, hX, hVX, HVD.out] at this
    exact this
  have HND : Hid (∀ W, Below W0.heap.size W0 W → Calls Tryd.prog 29 #[.agg VN, .agg VL] W fun e w' => e = .returned (.agg VQ) ∧ Below W.heap.size W w') := Lib.hid fun W hW => by
    have := node_any X L W hX32 HL1.out hXB HL2.out (HT.out.next hW)
    unfold HashTo at this
    rw [hVN, HVL.out, hVQ] at this
    exact this
  have HSP := Lib.hid fun (W : World) => split_any (n : Int) W (by omega) (by omega)
  simp only [Int.toNat_natCast, hke] at HSP
  have HVX := Lib.hid hVX; have HXS := Lib.hid hxs; have HXO := Lib.hid hxo; have HXI := Lib.hid hxi
  have HVO := Lib.hid hVO; have HVN := Lib.hid hVN; have HIO := Lib.hid (hash_size O hO32); have HIN := Lib.hid (hash_size X hX32)
  have HVS := Lib.hid hvs; have HVVO := Lib.hid hvo; have HVI := Lib.hid hvi2
  have HBD := Lib.hid hbd
  have HOL : Hid ((bs O).length = 32) := Lib.hid (by rw [bs_length, hO32])
  rw [hm]
  rw [hm] at hc
  have hw1 : IntKind.i64.wrap (((l + 1 : Nat) : Int) - 1) = (l : Int) := by rw [show ((l + 1 : Nat) : Int) - 1 = (l : Int) by omega]; exact IntWalk.i64_in _ (by omega)
  have hw1' : IntKind.i64.wrap ((l : Int) + 1 - 1) = (l : Int) := by rw [show (l : Int) + 1 - 1 = (l : Int) by omega]; exact IntWalk.i64_in _ (by omega)
  have hn1 : ¬ (m : Int) = (n : Int) := by omega
  have q1 : (l : Int) ≤ (c : Int) := by omega
  have q2 : (l : Int) < (l : Int) + 1 := by omega
  have hkI : (m : Int) ≤ (k : Int) := by omega
  clear b1 b2 k1 k2 hs0 hrd ih hdg hd h32 hVD hvz hon hvi hat ht hVL hlz hlo hli hrr hfo htl hdl hLe hps hL1 hL2 hL3 hm hlen hput hO hX hO32 hX32 hXB hVX hxs hxo hxi hVO hVN hVQ hV hvs hvo hvi2 hbd hpsz hke hZB hZS
  go_enter Tryd.func20, Tryd.ntmps20
  go_upto_region 6 with fail
  try clear hW0
  refine wp_region_noPanic ?_
  refine wp_region_held_drew (S := fun w' => w'.rangeAt bb (oo + l * 32) (bs L)) (by kernel_rfl) (by rw [World.rangeAt_drew]; exact HRR.out) (fun hHeld => ?_)
  refine wpAnyH_take (i := 0) (oi := { dst := some 34, op := Go.Op.move (Go.Operand.tmp 3), type := 25, pos := "grow.go:81", after := #[], guard := none }) (v := ?_) rfl (by kernel_rfl) (by kernel_rfl) (by kernel_rfl) (fun _ _ _ => np) (Or.inl ⟨by rfl, ?_⟩) (by assumption) ?_
  rotate_left
  · (intro _ hSw; (try dsimp only at hSw); clear hSw; go_simp; try with_reducible rfl)
  try simp only [Act.put, List.setIfInBounds_toArray, List.set_cons_zero, List.set_cons_succ]
  refine wpAnyH_take (i := 1) (oi := { dst := some 35, op := Go.Op.move (Go.Operand.tmp 9), type := 3, pos := "grow.go:81", after := #[], guard := none }) (v := ?_) rfl (by kernel_rfl) (by kernel_rfl) (by kernel_rfl) (fun _ _ _ => np) (Or.inl ⟨by rfl, ?_⟩) (by assumption) ?_
  rotate_left
  · (intro _ hSw; (try dsimp only at hSw); clear hSw; go_simp; try with_reducible rfl)
  try simp only [Act.put, List.setIfInBounds_toArray, List.set_cons_zero, List.set_cons_succ]
  refine wpAnyH_take (i := 2) (oi := { dst := some 36, op := Go.Op.slice 25 (Go.Operand.tmp 34) none (some (Go.Operand.tmp 35)) none, type := 25, pos := "grow.go:81", after := #[{ on := 0, ground := Go.Ground.data }, { on := 1, ground := Go.Ground.data }], guard := none }) (v := ?_) rfl (by kernel_rfl) (by kernel_rfl) (by kernel_rfl) (fun _ _ _ => np) (Or.inl ⟨by rfl, ?_⟩) (by assumption) ?_
  rotate_left
  · (intro _ hSw; (try dsimp only at hSw); clear hSw; go_simp; try with_reducible rfl)
  try simp only [Act.put, List.setIfInBounds_toArray, List.set_cons_zero, List.set_cons_succ]
  refine wpAnyH_take (i := 3) (oi := { dst := some 37, op := Go.Op.move (Go.Operand.tmp 3), type := 25, pos := "grow.go:81", after := #[{ on := 8, ground := Go.Ground.gcOnly Go.Departure.lateStores }], guard := none }) (v := ?_) rfl (by kernel_rfl) (by kernel_rfl) (by kernel_rfl) (fun _ _ _ => np) (Or.inl ⟨by rfl, ?_⟩) (by assumption) ?_
  rotate_left
  · (intro _ hSw; (try dsimp only at hSw); clear hSw; go_simp; try with_reducible rfl)
  try simp only [Act.put, List.setIfInBounds_toArray, List.set_cons_zero, List.set_cons_succ]
  refine wpAnyH_take (i := 4) (oi := { dst := some 38, op := Go.Op.move (Go.Operand.tmp 9), type := 3, pos := "grow.go:81", after := #[{ on := 8, ground := Go.Ground.gcOnly Go.Departure.lateStores }], guard := none }) (v := ?_) rfl (by kernel_rfl) (by kernel_rfl) (by kernel_rfl) (fun _ _ _ => np) (Or.inl ⟨by rfl, ?_⟩) (by assumption) ?_
  rotate_left
  · (intro _ hSw; (try dsimp only at hSw); clear hSw; go_simp; try with_reducible rfl)
  try simp only [Act.put, List.setIfInBounds_toArray, List.set_cons_zero, List.set_cons_succ]
  refine wpAnyH_take (i := 5) (oi := { dst := some 39, op := Go.Op.indexAddr 25 (Go.Operand.tmp 37) (Go.Operand.tmp 38), type := 0, pos := "grow.go:81", after := #[{ on := 3, ground := Go.Ground.data }, { on := 4, ground := Go.Ground.data }, { on := 8, ground := Go.Ground.gcOnly Go.Departure.lateStores }], guard := none }) (v := ?_) rfl (by kernel_rfl) (by kernel_rfl) (by kernel_rfl) (fun _ _ _ => np) (Or.inl ⟨by rfl, ?_⟩) (by assumption) ?_
  rotate_left
  · (intro _ hSw; (try dsimp only at hSw); clear hSw; go_simp; try with_reducible rfl)
  try simp only [Act.put, List.setIfInBounds_toArray, List.set_cons_zero, List.set_cons_succ]
  refine wpAnyH_take (i := 6) (oi := { dst := some 40, op := Go.Op.load 33 (Go.Operand.tmp 39), type := 33, pos := "grow.go:81", after := #[{ on := 5, ground := Go.Ground.data }, { on := 8, ground := Go.Ground.gcOnly Go.Departure.lateStores }], guard := none }) (v := .agg VL) rfl (by kernel_rfl) (by kernel_rfl) (by kernel_rfl) (fun _ _ _ => np) (yieldsIf_loadX (by rfl) 33 (.tmp 39) rfl bb (oo + l * 32) rfl (bs L) VL HVL.out _ (fun w' hS => hS) Tryd.underlying33 rfl HIL.out) (by assumption) ?_
  try simp only [Act.put, List.setIfInBounds_toArray, List.set_cons_zero, List.set_cons_succ]
  clear hHeld
  have b1 := Below.drew ((Below.refl W0.heap.size W0).alloc (Nat.le_refl _) (.cells (Array.replicate 32 (.int .u8 0)) 33))
  have k1 := (Blk.new W0 33 (Array.replicate 32 (.int .u8 0))).drew
  refine wpAnyH_ready (rs := [7]) (by kernel_rfl) (by simp) ?_
  refine AllReadyH.cons rfl (fun K hK => ?_) AllReadyH.nil
  go_simp
  refine hK.out _ _ (range_next HRR.out hbb b1) (fun hHeld => ?_)
  clear hK K
  try simp only [Act.put, List.setIfInBounds_toArray, List.set_cons_zero, List.set_cons_succ]
  clear hHeld
  obtain ⟨W1, hW1⟩ : ∃ W1, (W0.alloc (.cells (Array.replicate 32 (.int .u8 0)) 33)).drew = W1 := ⟨_, rfl⟩
  rw [hW1] at b1 k1 ⊢
  clear hW1
  have hHeld := range_next HRR.out hbb b1
  refine wpAnyH_take (i := 8) (oi := { dst := some 10, op := Go.Op.assign (Go.Operand.tmp 36), type := 25, pos := "grow.go:81", after := #[{ on := 2, ground := Go.Ground.data }, { on := 0, ground := Go.Ground.phase }, { on := 1, ground := Go.Ground.phase }, { on := 2, ground := Go.Ground.phase }, { on := 3, ground := Go.Ground.textOnly Go.Departure.lateStores }, { on := 4, ground := Go.Ground.textOnly Go.Departure.lateStores }, { on := 5, ground := Go.Ground.textOnly Go.Departure.lateStores }, { on := 6, ground := Go.Ground.textOnly Go.Departure.lateStores }, { on := 7, ground := Go.Ground.phase }], guard := none }) (v := ?_) rfl (by kernel_rfl) (by kernel_rfl) (by kernel_rfl) (fun _ _ _ => np) (Or.inl ⟨by rfl, ?_⟩) (by assumption) ?_
  rotate_left
  · (intro _ hSw; (try dsimp only at hSw); clear hSw; go_simp; try with_reducible rfl)
  try simp only [Act.put, List.setIfInBounds_toArray, List.set_cons_zero, List.set_cons_succ]
  have hst := run_storeCells_row (P := Tryd.prog) k1 (cs' := VL) HLI.out (by rw [HLZ.out]; simp) HLO.out
  have hvv := HLZ.out
  refine wpAnyH_ready (rs := [9]) (by kernel_rfl) (by simp) ?_
  refine AllReadyH.cons rfl (fun K hK => ?_) AllReadyH.nil
  go_simp
  refine hK.out _ _ (range_row VL (range_next HRR.out hbb b1) (by omega)) (fun hHeld => ?_)
  clear hK K
  try simp only [Act.put, List.setIfInBounds_toArray, List.set_cons_zero, List.set_cons_succ]
  refine wpAnyH_done (by kernel_rfl) ?_ _
  refine NoPanic.normal ?_
  have k2 := k1.row VL
  have b2 := Below.row b1 (Nat.le_refl W0.heap.size) VL
  obtain ⟨W2, hW2⟩ : ∃ W2, W1.setRow W0.heap.size VL = W2 := ⟨_, rfl⟩
  rw [hW2] at k2 b2 ⊢
  clear hW2 hst k1 b1 hvv hHeld
  have hlt2 : W0.heap.size < W2.heap.size := k2.lt
  have HK2' := Lib.hid (HK2.out.below b2 HK2.out.lt)
  have HRD2 : Hid (W2.rangeAt w.heap.size 0 (bs a)) := Lib.hid (range_next HRD.out HK1.out.lt b2)
  have HRL2 : Hid (W2.rangeAt W0.heap.size 0 (bs L)) := Lib.hid (by rw [← HVL.out] at k2; exact k2.range)
  have HB2W := Lib.hid b2
  have HLT2 := Lib.hid hlt2
  clear k2 b2 hlt2
  go_wp2_with fail
  refine (HSP.out _).mono ?_
  rintro _ _ ⟨rfl, rfl⟩
  go_wp2_with (refine wpQ_load (by rfl) 33 (.tmp 6) rfl w.heap.size 0 rfl (bs a) VD HVD.out _ HRD2.out Tryd.underlying33 rfl HID.out ?_)
  refine (HC.out _ HB2W.out).mono ?_
  rintro _ w6 ⟨rfl, hb6⟩
  have HB6 := Lib.hid (HB2W.out.trans (hb6.mono HB2W.out.size))
  have HB26 := Lib.hid hb6
  have HK6 := Lib.hid (Blk.new w6 41 ZB)
  clear hb6
  go_upto_region 10 with (refine wpList_store_row (by rfl) (.tmp 13) (.tmp 50) (by rfl) (by rfl) (by rfl) HK6.out HXI.out (by rw [HXS.out, HZS.out]) HXO.out ?_)
  have b3 := HB6.out.alloc HB6.out.size (.cells ZB 41)
  have b4 := Below.row b3 HB6.out.size VX
  have k4 := HK6.out.row VX
  have b5 := Below.row (HB26.out.alloc HB26.out.size (.cells ZB 41)) HB26.out.size VX
  obtain ⟨W3, hW3⟩ : ∃ W3, (w6.alloc (.cells ZB 41)).setRow w6.heap.size VX = W3 := ⟨_, rfl⟩
  rw [hW3] at b4 k4 b5 ⊢
  clear hW3 b3
  have hlt6 : W2.heap.size ≤ w6.heap.size := HB26.out.size
  have hls := HLT2.out
  have hss := HS0.out
  have hk4r : W3.rangeAt w6.heap.size 0 (bs O ++ bs X) := by rw [← HVX.out] at k4; exact k4.range
  obtain ⟨ro, rx⟩ := range_two hk4r
  rw [HOL.out] at rx
  have rl := range_next HRL2.out hls b5
  have k8 := HK2'.out.below b5 HK2'.out.lt
  have hg3 : w6.heap.size < W3.heap.size := k4.lt
  have hg4 : W0.heap.size < W3.heap.size := by have := b5.size; omega
  have HSB : ∀ (W : World), Below W3.heap.size W3 W → W.rangeAt w6.heap.size 0 (bs O) ∧ W.rangeAt w6.heap.size 32 (bs X) ∧ W.rangeAt W0.heap.size 0 (bs L) := fun W hW => ⟨range_next ro hg3 hW, range_next rx hg3 hW, range_next rl hg4 hW⟩
  have HSR : ∀ (W : World), Below W3.heap.size W3 W → (W.setRow (w.heap.size + 1) V).rangeAt w6.heap.size 0 (bs O) ∧ (W.setRow (w.heap.size + 1) V).rangeAt w6.heap.size 32 (bs X) ∧ (W.setRow (w.heap.size + 1) V).rangeAt W0.heap.size 0 (bs L) := fun W hW => ⟨range_row V (HSB W hW).1 (by omega), range_row V (HSB W hW).2.1 (by omega), range_row V (HSB W hW).2.2 (by omega)⟩
  have HB4 := Lib.hid b4
  have HB := Below.drew (Below.refl W3.heap.size W3)
  clear b5 hk4r ro rx rl k4 hss hls
  refine wp_region_noPanic ?_
  refine wp_region_held_drew (S := fun w' => w'.rangeAt w6.heap.size 0 (bs O) ∧ w'.rangeAt w6.heap.size 32 (bs X) ∧ w'.rangeAt W0.heap.size 0 (bs L)) (by kernel_rfl) (HSB _ HB) (fun hHeld => ?_)
  refine wpAnyH_take (i := 0) (oi := { dst := some 51, op := Go.Op.fieldAddr 41 (Go.Operand.tmp 13) 0, type := 0, pos := "grow.go:85", after := #[], guard := none }) (v := ?_) rfl (by kernel_rfl) (by kernel_rfl) (by kernel_rfl) (fun _ _ _ => np) (Or.inl ⟨by rfl, ?_⟩) (by assumption) ?_
  rotate_left
  · (intro _ hSw; (try dsimp only at hSw); clear hSw; go_simp; try with_reducible rfl)
  try simp only [Act.put, List.setIfInBounds_toArray, List.set_cons_zero, List.set_cons_succ]
  refine wpAnyH_take (i := 2) (oi := { dst := some 53, op := Go.Op.fieldAddr 41 (Go.Operand.tmp 13) 1, type := 0, pos := "grow.go:85", after := #[], guard := none }) (v := ?_) rfl (by kernel_rfl) (by kernel_rfl) (by kernel_rfl) (fun _ _ _ => np) (Or.inl ⟨by rfl, ?_⟩) (by assumption) ?_
  rotate_left
  · (intro _ hSw; (try dsimp only at hSw); clear hSw; go_simp; try with_reducible rfl)
  try simp only [Act.put, List.setIfInBounds_toArray, List.set_cons_zero, List.set_cons_succ]
  refine wpAnyH_take (i := 1) (oi := { dst := some 52, op := Go.Op.load 33 (Go.Operand.tmp 51), type := 33, pos := "grow.go:85", after := #[{ on := 0, ground := Go.Ground.data }], guard := none }) (v := .agg VO) rfl (by kernel_rfl) (by kernel_rfl) (by kernel_rfl) (fun _ _ _ => np) (yieldsIf_loadX (by rfl) 33 (.tmp 51) rfl w6.heap.size 0 rfl (bs O) VO HVO.out _ (fun w' hS => hS.1) Tryd.underlying33 rfl HIO.out) (by assumption) ?_
  try simp only [Act.put, List.setIfInBounds_toArray, List.set_cons_zero, List.set_cons_succ]
  refine wpAnyH_take (i := 3) (oi := { dst := some 54, op := Go.Op.load 33 (Go.Operand.tmp 53), type := 33, pos := "grow.go:85", after := #[{ on := 2, ground := Go.Ground.data }], guard := none }) (v := .agg VN) rfl (by kernel_rfl) (by kernel_rfl) (by kernel_rfl) (fun _ _ _ => np) (yieldsIf_loadX (by rfl) 33 (.tmp 53) rfl w6.heap.size 32 rfl (bs X) VN HVN.out _ (fun w' hS => hS.2.1) Tryd.underlying33 rfl HIN.out) (by assumption) ?_
  try simp only [Act.put, List.setIfInBounds_toArray, List.set_cons_zero, List.set_cons_succ]
  refine wpAnyH_take (i := 4) (oi := { dst := some 55, op := Go.Op.load 33 (Go.Operand.tmp 11), type := 33, pos := "grow.go:85", after := #[], guard := none }) (v := .agg VL) rfl (by kernel_rfl) (by kernel_rfl) (by kernel_rfl) (fun _ _ _ => np) (yieldsIf_loadX (by rfl) 33 (.tmp 11) rfl W0.heap.size 0 rfl (bs L) VL HVL.out _ (fun w' hS => hS.2.2) Tryd.underlying33 rfl HIL.out) (by assumption) ?_
  try simp only [Act.put, List.setIfInBounds_toArray, List.set_cons_zero, List.set_cons_succ]
  refine wpAnyH_ready (rs := [5]) (by kernel_rfl) (by simp) ?_
  refine AllReadyH.cons rfl (fun K hK => ?_) AllReadyH.nil
  go_simp
  go_at_call 29
  refine (HND.out _ (HB4.out.trans (HB.mono HB4.out.size))).mono ?_
  rintro _ w7 ⟨rfl, hb7⟩
  have HB7 := HB.trans (hb7.mono HB.size)
  go_wp2_with fail
  refine hK.out _ _ (HSB _ HB7) (fun hHeld => ?_)
  clear hK K
  try simp only [Act.put, List.setIfInBounds_toArray, List.set_cons_zero, List.set_cons_succ]
  refine wpAnyH_ready (rs := [6]) (by kernel_rfl) (by simp) ?_
  refine AllReadyH.cons rfl (fun K hK => ?_) AllReadyH.nil
  refine wp_buildV 41 #[(0, .tmp 52), (1, .tmp 56)] rfl #[(0, .agg VO), (1, .agg VQ)] (by first | rfl | (simp [Act.eval, Act.put]; done) | simp [Act.eval]) _ (HBD.out _) ?_
  refine hK.out _ _ (HSB _ HB7) (fun hHeld => ?_)
  clear hK K
  try simp only [Act.put, List.setIfInBounds_toArray, List.set_cons_zero, List.set_cons_succ]
  have K7 := k8.below HB7 k8.lt
  have hst := run_storeCells_row (P := Tryd.prog) K7 (cs' := V) HVI.out (by rw [HVS.out, HZS.out]) HVVO.out
  have hvv := HVS.out
  refine wpAnyH_ready (rs := [7]) (by kernel_rfl) (by simp) ?_
  refine AllReadyH.cons rfl (fun K hK => ?_) AllReadyH.nil
  go_simp
  refine hK.out _ _ (HSR _ HB7) (fun hHeld => ?_)
  clear hK K
  try simp only [Act.put, List.setIfInBounds_toArray, List.set_cons_zero, List.set_cons_succ]
  refine wpAnyH_done (by kernel_rfl) ?_ _
  refine NoPanic.normal ?_
  have KK := Lib.hid (K7.row V)
  have BB := Lib.hid (Below.row (HB2.out.trans ((HB4.out.trans (HB7.mono HB4.out.size)).mono HB2.out.size)) (show w.heap.size ≤ w.heap.size + 1 by omega) V)
  clear hst K7 hHeld HB HB7 hb7 k8 HSB HSR
  go_wp2_with fail
  exact bodyPost_ret (v := .agg V) (results_cell_row rfl _ _ _ _ _ _ _ (by rfl) KK.out Tryd.underlying41 rfl HVI.out) rfl ⟨rfl, BB.out⟩
end Go.Proofs.YtfpbijnlmlaloaaDoor
