import Derived.Test.YtpgdlmnhomnblaaGreatDoorGrRefHd
import Derived.Test.YtpgdlmnhomnblaaGreatDoorJ47
import Derived.Test.YtpgdlmnhomnblaaGreatDoorJ32
namespace Go.Proofs.YtpgdlmnhomnblaaGreatDoor
open Go.RowKit
set_option linter.unusedVariables false
set_option linter.unusedSimpArgs false
set_option maxRecDepth 100000
attribute [local go_sem ↓] Go.wp_at_zero Go.wp_at_succ
section
variable {w : World} {P : Nat → Prop} {g d h B n c m cs cd : Nat} {A S D : Option Addr} {sl : List Cl} {rows : List (List Vl)} {hs : List (Zn × List Nat)} {ks : List (List Nat)} {l : List Nat}
set_option maxHeartbeats 8000000 in
theorem shows_any (H : GrI w P g d rows hs ks) (s : SetIn w B d h rows.length l) (hrn : rows.length = n) (ht : ShTab w) (hS : Reads w w.heap.size 3 S m (cls sl)) (hsl : sl.length = m) (hm : m ≤ 70) (hV : VV w A rows) (hn : n ≤ 60) (hD : Reads w w.heap.size 1 D n (bl (bit l) n))
    (hhs : hdsG sl rows m = hs) (hks : chsG sl rows m = ks) (hlen : ∀ r ∈ rows, r.length = m) (hi : ∀ k, ∀ v ∈ colV rows k, In64 v.1 ∧ In64 v.2.1) (hq : ∀ k, k < m → ∀ v ∈ colV rows k, v.2.2.length ≤ 65536) :
    Calls Tryz.prog 12 #[.pointer (some ⟨g, 0, none⟩), .agg #[.slice S m cs, .slice A n c, .slice D n cd]] w fun e w' => e = .returned (.bool true) ∧ Below w.heap.size w w' := by
  have hok := s.ok
  rw [hrn] at hok
  have hll := hok.len
  have hhl : hs.length = m := by rw [← hhs]; exact hdsG_length _ _ _
  have hkl : ks.length = m := by rw [← hks]; exact chsG_length _ _ _
  have h32 : ∀ y ∈ hs, y.2.length = 32 := by rw [← hhs]; exact hdsG_32 _ _ _
  have CLen := Lib.hid fun (W : World) (hb : Below w.heap.size w W) => Len_G (H.step (P' := P) (Stp.of_below hb))
  have CLive := Lib.hid fun (W : World) (hb : Below w.heap.size w W) => Live_G (H.step (P' := P) (Stp.of_below hb)) (s.below hb (Nat.le_refl _))
  have CHead := Lib.hid fun (W : World) (hb : Below w.heap.size w W) => Header_G (H.step (P' := P) (Stp.of_below hb)) (s.below hb (Nat.le_refl _)) (ht.next hb) (by omega)
  have CDead := Lib.hid fun (W : World) (hb : Below w.heap.size w W) => Dead_G (H.step (P' := P) (Stp.of_below hb)) (s.below hb (Nat.le_refl _))
  have CRow := Lib.hid fun (W : World) (hb : Below w.heap.size w W) (k : Nat) (r : List Vl) (hk : rows[k]? = some r) (hr : r.length ≤ 65536) => Row_some (H.step (P' := P) (Stp.of_below hb)) hk hr (by omega)
  have CRowN := Lib.hid fun (W : World) (hb : Below w.heap.size w W) (i : Int) (hi : i < 0 ∨ (rows.length : Int) ≤ i) => Row_none (H.step (P' := P) (Stp.of_below hb)) i hi
  have CAl := Lib.hid fun (W : World) (hb : Below w.heap.size w W) (k : Nat) (hk : k < rows.length) => Alive_some (H.step (P' := P) (Stp.of_below hb)) (s.below hb (Nat.le_refl _)) hk
  have CAlN := Lib.hid fun (W : World) (hb : Below w.heap.size w W) (i : Int) (hi : i < 0 ∨ (rows.length : Int) ≤ i) => Alive_none (H.step (P' := P) (Stp.of_below hb)) i hi
  have CCh := Lib.hid fun (W : World) (hb : Below w.heap.size w W) (k : Nat) (b : List Nat) (hk : ks[k]? = some b) (hbl : b.length ≤ 281474976710656) => Chunk_some (H.step (P' := P) (Stp.of_below hb)) hk hbl (by omega)
  have CChN := Lib.hid fun (W : World) (hb : Below w.heap.size w W) (i : Int) (hi : i < 0 ∨ (ks.length : Int) ≤ i) => Chunk_none (H.step (P' := P) (Stp.of_below hb)) i hi
  have RLive := Lib.hid fun (W : World) (hb : Below w.heap.size w W) => refLive_any (S := S) (m := m) (cs := cs) (A := A) (c := c) (cd := cd) (hD.next hb) (by omega)
  have RHead := Lib.hid fun (W : World) (hb : Below w.heap.size w W) => refHeader_any (cs := cs) (c := c) (cd := cd) ((hS.below hb).more hb.size) hsl (by omega) (hV.next hb) hrn (by omega) (hD.next hb) hok hlen hi hq
  have RByt := Lib.hid fun (W : World) (hb : Below w.heap.size w W) => refBytes_any D n cd l W (hD.next hb) (by omega) hok
  have RCh := Lib.hid fun (W : World) (hb : Below w.heap.size w W) (k : Nat) (hk : k < m) (kd wy : Int) (nu : Bool) (hz : sl[k]? = some (kd, nu, wy)) => refChunk_any (S := S) (m := m) (cs := cs) (A := A) (c := c) (D := D) (cd := cd) (ci := k) (kd := kd) (wy := wy) (nu := nu) ((hS.below hb).more hb.size) (by omega) (hV.next hb) hrn (by omega) hz (fun r hr => by have := hlen r hr; omega) (hi k) (hq k hk)
  simp only [hrn, hhl, hkl, hhs] at CLen CLive CHead CRowN CAl CAlN CChN RHead
  have CCS : Hid (∀ k, k < m → ∃ kd nu wy, sl[k]? = some (kd, nu, wy) ∧ ks[k]? = some (cpB kd wy (colV rows k)) ∧ (cpB kd wy (colV rows k)).length ≤ 20010000) := Lib.hid fun k hk => by
    obtain ⟨⟨kd, nu, wy⟩, hz⟩ : ∃ c, sl[k]? = some c := ⟨_, List.getElem?_eq_getElem (by rw [hsl]; exact hk)⟩
    refine ⟨kd, nu, wy, hz, ?_, (cpB_small (by unfold colV; rw [List.length_map]; omega) (fun v hv => (hi k v hv).2) (hq k hk)).1⟩
    rw [← hks, chsG, List.getElem?_map, List.getElem?_range hk]
    show some (chG sl rows k) = _
    unfold chG
    rw [List.getD_eq_getElem?_getD, hz]
    rfl
  obtain ⟨us, hu, hus⟩ := hV
  rw [hrn] at hu
  have HUS := Lib.hid hus; have HU := Lib.hid hu; have HDR := Lib.hid hD; have HLEN := Lib.hid hlen; have HRN := Lib.hid hrn; have H32 := Lib.hid h32; have HHL := Lib.hid hhl
  obtain ⟨zl, hzl⟩ : ∃ zl, l.length = zl := ⟨_, rfl⟩
  have hz9 : zl ≤ 8192 := by unfold siz at hll; omega
  have HZL := Lib.hid hzl
  obtain ⟨L, hL⟩ : ∃ L : Int, (n : Int) - (cnt (bit l) n : Int) = L := ⟨_, rfl⟩
  rw [hL] at CLive CHead RLive RHead
  rw [hzl] at RByt
  obtain ⟨X3, hX3⟩ : ∃ X3 : Array Value, #[.slice S m cs, .slice A n c, .slice D n cd] = X3 := ⟨_, rfl⟩
  have hX3l : [Value.slice S m cs, .slice A n c, .slice D n cd].toArray = X3 := hX3
  have kx := Blk.new w 33 X3
  have b1 := (Below.refl w.heap.size w).alloc (Nat.le_refl _) (.cells X3 33)
  rw [hX3] at RLive RHead RCh ⊢
  obtain ⟨W0, hW0⟩ : ∃ W0, w.alloc (.cells X3 33) = W0 := ⟨_, rfl⟩
  rw [hW0] at kx b1
  have hrx : W0.rangeAt w.heap.size 0 [Value.slice S m cs, .slice A n c, .slice D n cd] := by rw [← hX3l] at kx; exact range_blkG kx
  have HS0 : Hid (∀ (W : World), Below W0.heap.size W0 W → W.rangeAt w.heap.size 0 [Value.slice S m cs, .slice A n c, .slice D n cd]) := Lib.hid fun W hW => range_nextG hrx kx.lt hW
  have HB1 := Lib.hid b1; have HX3 := Lib.hid hX3l
  have HXI : Hid ((Tryz.prog.info? 33).map (·.size) = some [Value.slice S m cs, .slice A n c, .slice D n cd].length) := Lib.hid size_refG
  have UP : Hid (∀ {W : World}, Below W0.heap.size W0 W → Below w.heap.size w W) := Lib.hid fun hW => b1.trans (hW.mono b1.size)
  clear H s ht hS hsl hD hhs hks hlen hi hq hok hll hhl hkl h32 hu hus hzl hL hX3 hX3l kx b1 hrx
  go_enter Tryz.func12, Tryz.ntmps12
  go_upto_region 1 with fail
  try clear hW0
  have HB := Below.drew (Below.refl W0.heap.size W0)
  refine wp_region_noPanic ?_
  refine wp_region_held_drew (S := fun w' => w'.rangeAt w.heap.size 0 [Value.slice S m cs, .slice A n c, .slice D n cd]) (by kernel_rfl) (HS0.out _ HB) (fun hHeld => ?_)
  refine wpAnyH_take (i := 0) (oi := { dst := some 7, op := Go.Op.move (Go.Operand.tmp 0), type := 27, pos := "law.go:29", after := #[], guard := none }) (v := ?_) rfl (by kernel_rfl) (by kernel_rfl) (by kernel_rfl) (fun _ _ _ => np) (Or.inl ⟨by rfl, ?_⟩) (by assumption) ?_
  rotate_left
  · (intro _ hSw; (try dsimp only at hSw); clear hSw; go_simp; try with_reducible rfl)
  try simp only [Act.put, List.setIfInBounds_toArray, List.set_cons_zero, List.set_cons_succ]
  refine wpAnyH_take (i := 2) (oi := { dst := some 9, op := Go.Op.fieldAddr 33 (Go.Operand.tmp 3) 1, type := 0, pos := "law.go:29", after := #[], guard := none }) (v := ?_) rfl (by kernel_rfl) (by kernel_rfl) (by kernel_rfl) (fun _ _ _ => np) (Or.inl ⟨by rfl, ?_⟩) (by assumption) ?_
  rotate_left
  · (intro _ hSw; (try dsimp only at hSw); clear hSw; go_simp; try with_reducible rfl)
  try simp only [Act.put, List.setIfInBounds_toArray, List.set_cons_zero, List.set_cons_succ]
  refine wpAnyH_take (i := 3) (oi := { dst := some 10, op := Go.Op.load 23 (Go.Operand.tmp 9), type := 23, pos := "law.go:29", after := #[{ on := 2, ground := Go.Ground.data }], guard := none }) (v := .slice A n c) rfl (by kernel_rfl) (by kernel_rfl) (by kernel_rfl) (fun _ _ _ => np) (Or.inl ⟨by rfl, ?_⟩) (by assumption) ?_
  · (intro W hS; have hcl := ((hS 1 _ rfl : W.cell? ⟨w.heap.size, 1, none⟩ = some (.slice A n c))); clear hS; go_simp; try with_reducible rfl)
  try simp only [Act.put, List.setIfInBounds_toArray, List.set_cons_zero, List.set_cons_succ]
  refine wpAnyH_take (i := 4) (oi := { dst := some 11, op := Go.Op.call { callee := Go.Callee.builtin Go.Builtin.len, args := #[Go.Operand.tmp 10], argTypes := #[23] }, type := 3, pos := "law.go:29", after := #[{ on := 3, ground := Go.Ground.data }], guard := none }) (v := ?_) rfl (by kernel_rfl) (by kernel_rfl) (by kernel_rfl) (fun _ _ _ => np) (Or.inl ⟨by rfl, ?_⟩) (by assumption) ?_
  rotate_left
  · (intro _ hSw; (try dsimp only at hSw); clear hSw; go_simp; try with_reducible rfl)
  try simp only [Act.put, List.setIfInBounds_toArray, List.set_cons_zero, List.set_cons_succ]
  refine wpAnyH_ready (rs := [1]) (by kernel_rfl) (by simp) ?_
  refine AllReadyH.cons rfl (fun K hK => ?_) AllReadyH.nil
  go_simp
  go_at_call 8
  refine (CLen.out _ (UP.out HB)).mono ?_
  rintro _ _ ⟨rfl, rfl⟩
  go_wp2_with fail
  refine hK.out _ _ (HS0.out _ HB) (fun hHeld => ?_)
  clear hK K
  try simp only [Act.put, List.setIfInBounds_toArray, List.set_cons_zero, List.set_cons_succ]
  refine wpAnyH_take (i := 5) (oi := { dst := some 12, op := Go.Op.binOp Go.BinOp.neq 3 (Go.Operand.tmp 8) (Go.Operand.tmp 11) 3, type := 4, pos := "law.go:29", after := #[{ on := 1, ground := Go.Ground.data }, { on := 4, ground := Go.Ground.data }], guard := none }) (v := ?_) rfl (by kernel_rfl) (by kernel_rfl) (by kernel_rfl) (fun _ _ _ => np) (Or.inl ⟨by rfl, ?_⟩) (by assumption) ?_
  rotate_left
  · (intro _ hSw; (try dsimp only at hSw); clear hSw; go_simp; try with_reducible rfl)
  try simp only [Act.put, List.setIfInBounds_toArray, List.set_cons_zero, List.set_cons_succ]
  refine wpAnyH_take (i := 6) (oi := { dst := some 13, op := Go.Op.move (Go.Operand.tmp 12), type := 4, pos := "law.go:29", after := #[{ on := 5, ground := Go.Ground.data }, { on := 1, ground := Go.Ground.chain }], guard := none }) (v := ?_) rfl (by kernel_rfl) (by kernel_rfl) (by kernel_rfl) (fun _ _ _ => np) (Or.inl ⟨by rfl, ?_⟩) (by assumption) ?_
  rotate_left
  · (intro _ hSw; (try dsimp only at hSw); clear hSw; go_simp; try with_reducible rfl)
  try simp only [Act.put, List.setIfInBounds_toArray, List.set_cons_zero, List.set_cons_succ]
  refine wpAnyH_take (i := 7) (oi := { dst := some 14, op := Go.Op.move (Go.Operand.tmp 0), type := 27, pos := "law.go:29", after := #[{ on := 6, ground := Go.Ground.guard }], guard := some (6, false) }) (v := ?_) rfl (by kernel_rfl) (by kernel_rfl) (by kernel_rfl) (fun _ _ _ => np) (Or.inl ⟨by rfl, ?_⟩) (by assumption) ?_
  rotate_left
  · (intro _ hSw; (try dsimp only at hSw); clear hSw; go_simp; try with_reducible rfl)
  try simp only [Act.put, List.setIfInBounds_toArray, List.set_cons_zero, List.set_cons_succ]
  refine wpAnyH_take (i := 9) (oi := { dst := some 16, op := Go.Op.load 33 (Go.Operand.tmp 3), type := 33, pos := "law.go:29", after := #[{ on := 6, ground := Go.Ground.guard }], guard := some (6, false) }) (v := .agg X3) rfl (by kernel_rfl) (by kernel_rfl) (by kernel_rfl) (fun _ _ _ => np) (yieldsIf_load_midX (by rfl) 33 (.tmp 3) rfl w.heap.size 0 rfl [Value.slice S m cs, .slice A n c, .slice D n cd] X3 HX3.out _ (fun w' hS => hS) Tryz.underlying33 rfl HXI.out) (by assumption) ?_
  try simp only [Act.put, List.setIfInBounds_toArray, List.set_cons_zero, List.set_cons_succ]
  refine wpAnyH_ready (rs := [8]) (by kernel_rfl) (by simp) ?_
  refine AllReadyH.cons rfl (fun K hK => ?_) AllReadyH.nil
  go_simp
  go_at_call 14
  refine (CLive.out _ (UP.out HB)).mono ?_
  rintro _ w2 ⟨rfl, hb2⟩
  have HB2 := HB.trans (hb2.mono HB.size)
  go_wp2_with fail
  refine hK.out _ _ (HS0.out _ HB2) (fun hHeld => ?_)
  clear hK K
  try simp only [Act.put, List.setIfInBounds_toArray, List.set_cons_zero, List.set_cons_succ]
  refine wpAnyH_ready (rs := [10]) (by kernel_rfl) (by simp) ?_
  refine AllReadyH.cons rfl (fun K hK => ?_) AllReadyH.nil
  go_simp
  go_at_call 29
  refine (RLive.out _ (UP.out HB2)).mono ?_
  rintro _ w3 ⟨rfl, hb3⟩
  have HB3 := HB2.trans (hb3.mono HB2.size)
  go_wp2_with fail
  refine hK.out _ _ (HS0.out _ HB3) (fun hHeld => ?_)
  clear hK K
  try simp only [Act.put, List.setIfInBounds_toArray, List.set_cons_zero, List.set_cons_succ]
  refine wpAnyH_take (i := 11) (oi := { dst := some 18, op := Go.Op.binOp Go.BinOp.neq 3 (Go.Operand.tmp 15) (Go.Operand.tmp 17) 3, type := 4, pos := "law.go:29", after := #[{ on := 8, ground := Go.Ground.data }, { on := 10, ground := Go.Ground.data }, { on := 6, ground := Go.Ground.guard }], guard := some (6, false) }) (v := ?_) rfl (by kernel_rfl) (by kernel_rfl) (by kernel_rfl) (fun _ _ _ => np) (Or.inl ⟨by rfl, ?_⟩) (by assumption) ?_
  rotate_left
  · (intro _ hSw; (try dsimp only at hSw); clear hSw; go_simp; try with_reducible rfl)
  try simp only [Act.put, List.setIfInBounds_toArray, List.set_cons_zero, List.set_cons_succ]
  refine wpAnyH_take (i := 12) (oi := { dst := some 19, op := Go.Op.pick (Go.Operand.tmp 13) (Go.Operand.const (Go.Value.bool true)) (Go.Operand.tmp 18), type := 4, pos := "law.go:29", after := #[{ on := 6, ground := Go.Ground.data }, { on := 11, ground := Go.Ground.data }], guard := none }) (v := ?_) rfl (by kernel_rfl) (by kernel_rfl) (by kernel_rfl) (fun _ _ _ => np) (Or.inl ⟨by rfl, ?_⟩) (by assumption) ?_
  rotate_left
  · (intro _ hSw; (try dsimp only at hSw); clear hSw; go_simp; try with_reducible rfl)
  try simp only [Act.put, List.setIfInBounds_toArray, List.set_cons_zero, List.set_cons_succ]
  refine wpAnyH_take (i := 13) (oi := { dst := some 20, op := Go.Op.move (Go.Operand.tmp 19), type := 4, pos := "law.go:29", after := #[{ on := 12, ground := Go.Ground.data }, { on := 10, ground := Go.Ground.chain }], guard := none }) (v := ?_) rfl (by kernel_rfl) (by kernel_rfl) (by kernel_rfl) (fun _ _ _ => np) (Or.inl ⟨by rfl, ?_⟩) (by assumption) ?_
  rotate_left
  · (intro _ hSw; (try dsimp only at hSw); clear hSw; go_simp; try with_reducible rfl)
  try simp only [Act.put, List.setIfInBounds_toArray, List.set_cons_zero, List.set_cons_succ]
  refine wpAnyH_take (i := 14) (oi := { dst := some 21, op := Go.Op.move (Go.Operand.tmp 0), type := 27, pos := "law.go:29", after := #[{ on := 13, ground := Go.Ground.guard }], guard := some (13, false) }) (v := ?_) rfl (by kernel_rfl) (by kernel_rfl) (by kernel_rfl) (fun _ _ _ => np) (Or.inl ⟨by rfl, ?_⟩) (by assumption) ?_
  rotate_left
  · (intro _ hSw; (try dsimp only at hSw); clear hSw; go_simp; try with_reducible rfl)
  try simp only [Act.put, List.setIfInBounds_toArray, List.set_cons_zero, List.set_cons_succ]
  refine wpAnyH_take (i := 16) (oi := { dst := some 23, op := Go.Op.load 33 (Go.Operand.tmp 3), type := 33, pos := "law.go:29", after := #[{ on := 13, ground := Go.Ground.guard }], guard := some (13, false) }) (v := .agg X3) rfl (by kernel_rfl) (by kernel_rfl) (by kernel_rfl) (fun _ _ _ => np) (yieldsIf_load_midX (by rfl) 33 (.tmp 3) rfl w.heap.size 0 rfl [Value.slice S m cs, .slice A n c, .slice D n cd] X3 HX3.out _ (fun w' hS => hS) Tryz.underlying33 rfl HXI.out) (by assumption) ?_
  try simp only [Act.put, List.setIfInBounds_toArray, List.set_cons_zero, List.set_cons_succ]
  refine wpAnyH_ready (rs := [15]) (by kernel_rfl) (by simp) ?_
  refine AllReadyH.cons rfl (fun K hK => ?_) AllReadyH.nil
  go_simp
  go_at_call 10
  refine (CHead.out _ (UP.out HB3)).mono ?_
  rintro _ w4 ⟨va, rfl, ho4, hb4⟩
  obtain ⟨Aa, ca, rfl, _, _, _⟩ := own_slice ho4
  have HB4 := HB3.trans (hb4.mono HB3.size)
  go_wp2_with fail
  refine hK.out _ _ (HS0.out _ HB4) (fun hHeld => ?_)
  clear hK K
  try simp only [Act.put, List.setIfInBounds_toArray, List.set_cons_zero, List.set_cons_succ]
  refine wpAnyH_ready (rs := [17]) (by kernel_rfl) (by simp) ?_
  refine AllReadyH.cons rfl (fun K hK => ?_) AllReadyH.nil
  go_simp
  go_at_call 30
  refine (RHead.out _ (UP.out HB4)).mono ?_
  rintro _ w5 ⟨vb, rfl, ho5, hb5⟩
  obtain ⟨Ab, cb, rfl, _, _, rb⟩ := own_slice ho5
  have HB5 := HB4.trans (hb5.mono HB4.size)
  go_wp2_with fail
  refine hK.out _ _ (HS0.out _ HB5) (fun hHeld => ?_)
  clear hK K
  try simp only [Act.put, List.setIfInBounds_toArray, List.set_cons_zero, List.set_cons_succ]
  refine wpAnyH_ready (rs := [18]) (by kernel_rfl) (by simp) ?_
  refine AllReadyH.cons rfl (fun K hK => ?_) AllReadyH.nil
  go_simp
  go_at_call 13
  refine (sameH_true (c := ca) (c' := cb) (n := (n : Int)) (L := L) (l := shaN l) (Reads.of_own (own_below ho4 hb5)) rb (shaN_length _) H32.out HHL.out (by omega)).mono ?_
  rintro _ w6 ⟨rfl, hb6⟩
  have HB6 := HB5.trans (hb6.mono HB5.size)
  go_wp2_with fail
  refine hK.out _ _ (HS0.out _ HB6) (fun hHeld => ?_)
  clear hK K
  try simp only [Act.put, List.setIfInBounds_toArray, List.set_cons_zero, List.set_cons_succ]
  refine wpAnyH_take (i := 19) (oi := { dst := some 26, op := Go.Op.unOp Go.UnOp.not 4 (Go.Operand.tmp 25), type := 4, pos := "law.go:29", after := #[{ on := 18, ground := Go.Ground.data }, { on := 13, ground := Go.Ground.guard }], guard := some (13, false) }) (v := ?_) rfl (by kernel_rfl) (by kernel_rfl) (by kernel_rfl) (fun _ _ _ => np) (Or.inl ⟨by rfl, ?_⟩) (by assumption) ?_
  rotate_left
  · (intro _ hSw; (try dsimp only at hSw); clear hSw; go_simp; try with_reducible rfl)
  try simp only [Act.put, List.setIfInBounds_toArray, List.set_cons_zero, List.set_cons_succ]
  refine wpAnyH_take (i := 20) (oi := { dst := some 27, op := Go.Op.pick (Go.Operand.tmp 20) (Go.Operand.const (Go.Value.bool true)) (Go.Operand.tmp 26), type := 4, pos := "law.go:29", after := #[{ on := 13, ground := Go.Ground.data }, { on := 19, ground := Go.Ground.data }], guard := none }) (v := ?_) rfl (by kernel_rfl) (by kernel_rfl) (by kernel_rfl) (fun _ _ _ => np) (Or.inl ⟨by rfl, ?_⟩) (by assumption) ?_
  rotate_left
  · (intro _ hSw; (try dsimp only at hSw); clear hSw; go_simp; try with_reducible rfl)
  try simp only [Act.put, List.setIfInBounds_toArray, List.set_cons_zero, List.set_cons_succ]
  refine wpAnyH_take (i := 21) (oi := { dst := some 28, op := Go.Op.move (Go.Operand.tmp 27), type := 4, pos := "law.go:29", after := #[{ on := 20, ground := Go.Ground.data }, { on := 18, ground := Go.Ground.chain }], guard := none }) (v := ?_) rfl (by kernel_rfl) (by kernel_rfl) (by kernel_rfl) (fun _ _ _ => np) (Or.inl ⟨by rfl, ?_⟩) (by assumption) ?_
  rotate_left
  · (intro _ hSw; (try dsimp only at hSw); clear hSw; go_simp; try with_reducible rfl)
  try simp only [Act.put, List.setIfInBounds_toArray, List.set_cons_zero, List.set_cons_succ]
  refine wpAnyH_take (i := 22) (oi := { dst := some 29, op := Go.Op.move (Go.Operand.tmp 0), type := 27, pos := "law.go:29", after := #[{ on := 21, ground := Go.Ground.guard }], guard := some (21, false) }) (v := ?_) rfl (by kernel_rfl) (by kernel_rfl) (by kernel_rfl) (fun _ _ _ => np) (Or.inl ⟨by rfl, ?_⟩) (by assumption) ?_
  rotate_left
  · (intro _ hSw; (try dsimp only at hSw); clear hSw; go_simp; try with_reducible rfl)
  try simp only [Act.put, List.setIfInBounds_toArray, List.set_cons_zero, List.set_cons_succ]
  refine wpAnyH_take (i := 24) (oi := { dst := some 31, op := Go.Op.fieldAddr 33 (Go.Operand.tmp 3) 2, type := 0, pos := "law.go:29", after := #[{ on := 21, ground := Go.Ground.guard }], guard := some (21, false) }) (v := ?_) rfl (by kernel_rfl) (by kernel_rfl) (by kernel_rfl) (fun _ _ _ => np) (Or.inl ⟨by rfl, ?_⟩) (by assumption) ?_
  rotate_left
  · (intro _ hSw; (try dsimp only at hSw); clear hSw; go_simp; try with_reducible rfl)
  try simp only [Act.put, List.setIfInBounds_toArray, List.set_cons_zero, List.set_cons_succ]
  refine wpAnyH_take (i := 25) (oi := { dst := some 32, op := Go.Op.load 31 (Go.Operand.tmp 31), type := 31, pos := "law.go:29", after := #[{ on := 24, ground := Go.Ground.data }, { on := 21, ground := Go.Ground.guard }], guard := some (21, false) }) (v := .slice D n cd) rfl (by kernel_rfl) (by kernel_rfl) (by kernel_rfl) (fun _ _ _ => np) (Or.inl ⟨by rfl, ?_⟩) (by assumption) ?_
  · (intro W hS; have hcl := ((hS 2 _ rfl : W.cell? ⟨w.heap.size, 2, none⟩ = some (.slice D n cd))); clear hS; go_simp; try with_reducible rfl)
  try simp only [Act.put, List.setIfInBounds_toArray, List.set_cons_zero, List.set_cons_succ]
  refine wpAnyH_ready (rs := [23]) (by kernel_rfl) (by simp) ?_
  refine AllReadyH.cons rfl (fun K hK => ?_) AllReadyH.nil
  go_simp
  go_at_call 26
  refine (CDead.out _ (UP.out HB6)).mono ?_
  rintro _ w7 ⟨q7, rfl, hk7, _, hb7⟩
  have HB7 := HB6.trans (hb7.mono HB6.size)
  go_wp2_with fail
  refine hK.out _ _ (HS0.out _ HB7) (fun hHeld => ?_)
  clear hK K
  try simp only [Act.put, List.setIfInBounds_toArray, List.set_cons_zero, List.set_cons_succ]
  refine wpAnyH_ready (rs := [26]) (by kernel_rfl) (by simp) ?_
  refine AllReadyH.cons rfl (fun K hK => ?_) AllReadyH.nil
  go_simp
  go_at_call 32
  refine (RByt.out _ (UP.out HB7)).mono ?_
  rintro _ w8 ⟨v8, rfl, ho8, hb8⟩
  obtain ⟨A8, c8, rfl, _, _, r8⟩ := own_slice ho8
  have HB8 := HB7.trans (hb8.mono HB7.size)
  have k8 := hk7.below hb8 hk7.lt
  go_wp2_with fail
  refine hK.out _ _ (HS0.out _ HB8) (fun hHeld => ?_)
  clear hK K
  try simp only [Act.put, List.setIfInBounds_toArray, List.set_cons_zero, List.set_cons_succ]
  refine wpAnyH_ready (rs := [27]) (by kernel_rfl) (by simp) ?_
  refine AllReadyH.cons rfl (fun K hK => ?_) AllReadyH.nil
  go_simp
  go_at_call 31
  have hsm := same_any (some ⟨q7, 0, none⟩) A8 l.length l.length zl c8 l l w8 (reads_blk k8 _ _ _ k8.lt (bs_length l) (by simp [bs_length, List.take_of_length_le])) r8 (by rw [HZL.out]; omega)
  rw [sameB_true (rfl : l = l)] at hsm
  refine hsm.mono ?_
  rintro _ w9 ⟨rfl, hd9⟩
  have hb9 : Below w8.heap.size w8 w9 := hd9.below (Below.refl _ _)
  have HB9 := HB8.trans (hb9.mono HB8.size)
  clear hsm
  go_wp2_with fail
  refine hK.out _ _ (HS0.out _ HB9) (fun hHeld => ?_)
  clear hK K
  try simp only [Act.put, List.setIfInBounds_toArray, List.set_cons_zero, List.set_cons_succ]
  refine wpAnyH_take (i := 28) (oi := { dst := some 35, op := Go.Op.unOp Go.UnOp.not 4 (Go.Operand.tmp 34), type := 4, pos := "law.go:29", after := #[{ on := 27, ground := Go.Ground.data }, { on := 21, ground := Go.Ground.guard }], guard := some (21, false) }) (v := ?_) rfl (by kernel_rfl) (by kernel_rfl) (by kernel_rfl) (fun _ _ _ => np) (Or.inl ⟨by rfl, ?_⟩) (by assumption) ?_
  rotate_left
  · (intro _ hSw; (try dsimp only at hSw); clear hSw; go_simp; try with_reducible rfl)
  try simp only [Act.put, List.setIfInBounds_toArray, List.set_cons_zero, List.set_cons_succ]
  refine wpAnyH_take (i := 29) (oi := { dst := some 36, op := Go.Op.pick (Go.Operand.tmp 28) (Go.Operand.const (Go.Value.bool true)) (Go.Operand.tmp 35), type := 4, pos := "law.go:29", after := #[{ on := 21, ground := Go.Ground.data }, { on := 28, ground := Go.Ground.data }], guard := none }) (v := ?_) rfl (by kernel_rfl) (by kernel_rfl) (by kernel_rfl) (fun _ _ _ => np) (Or.inl ⟨by rfl, ?_⟩) (by assumption) ?_
  rotate_left
  · (intro _ hSw; (try dsimp only at hSw); clear hSw; go_simp; try with_reducible rfl)
  try simp only [Act.put, List.setIfInBounds_toArray, List.set_cons_zero, List.set_cons_succ]
  refine wpAnyH_done (by kernel_rfl) ?_ _
  refine NoPanic.normal ?_
  have HB9' := Lib.hid HB9
  clear HB HB2 HB3 HB4 HB5 HB6 HB7 HB8 HB9 hb2 hb3 hb4 hb5 hb6 hb7 hb8 hb9 hd9 ho4 ho5 rb hk7 k8 ho8 r8 hHeld CLen CLive CHead CDead RLive RHead RByt
  go_wp2_with fail
  go_loopw [5] (fun s5 wr => ∃ k : Nat, k ≤ n ∧ s5 = .int .i64 (k : Int) ∧ Below W0.heap.size W0 wr) (fun s5 _ => n - (intOf s5).toNat)
  case atStart => exact ⟨0, Nat.zero_le _, rfl, HB9'.out⟩
  case round =>
    clear HB9'
    obtain ⟨k, hk, rfl, hbw⟩ := hrel
    have hc1 : wr.cell? ⟨w.heap.size, 1, none⟩ = some (.slice A n c) := HS0.out _ hbw 1 _ rfl
    by_cases hlt : k < n
    · obtain ⟨r, hr⟩ : ∃ r, rows[k]? = some r := ⟨_, List.getElem?_eq_getElem (by rw [HRN.out]; exact hlt)⟩
      have hrm := HLEN.out r (List.mem_of_getElem? hr)
      have CR := Lib.hid fun (W : World) (hb : Below w.heap.size w W) => CRow.out W hb k r hr (by omega)
      obtain ⟨u, hu1, A2, c2, rfl, hrr⟩ := HUS.out k r hr
      obtain ⟨bb, oo, rfl, hbb, hcell⟩ := reads_plain2 HU.out (by omega) hu1
      have hcu := hcell k _ hu1
      obtain ⟨db, dof, rfl, hadb, hdcell⟩ := reads_plain2 HDR.out (by omega) (bl_at (bit l) hlt)
      have hadc := hdcell k _ (bl_at (bit l) hlt)
      clear hdcell
      obtain ⟨q, hqb⟩ : ∃ q, bit l k = q := ⟨_, rfl⟩
      have CA := Lib.hid fun (W : World) (hb : Below w.heap.size w W) => CAl.out W hb k hlt
      rw [has_at hlt, hqb] at CA
      rw [hqb] at hadc
      rw [hrm] at CR hcu
      have hltI : (k : Int) < (n : Int) := by omega
      have HBW := Lib.hid hbw
      have HS1 : Hid (∀ (W : World), Below wr.heap.size wr W → W.rangeAt w.heap.size 0 [Value.slice S m cs, .slice (some ⟨bb, oo, none⟩) n c, .slice (some ⟨db, dof, none⟩) n cd] ∧ W.cell? ⟨bb, oo + k, none⟩ = some (.slice A2 m c2) ∧ W.cell? ⟨db, dof + k, none⟩ = some (.bool q)) := Lib.hid fun W hW => by
        have h1 := HBW.out.trans (hW.mono HBW.out.size)
        have h2 := UP.out h1
        exact ⟨HS0.out _ h1, (h2.cell (p := ⟨bb, oo + k, none⟩) hbb).trans hcu, (h2.cell (p := ⟨db, dof + k, none⟩) hadb).trans hadc⟩
      have HRR := Lib.hid hrr; have HRM := Lib.hid hrm
      clear hr hu1 hcell hcu hadc hqb hrr hrm hbw
      go_upto_region 6 with fail
      have HB := Below.drew (Below.refl wr.heap.size wr)
      refine wp_region_noPanic ?_
      refine wp_region_held_drew (S := fun w' => w'.rangeAt w.heap.size 0 [Value.slice S m cs, .slice (some ⟨bb, oo, none⟩) n c, .slice (some ⟨db, dof, none⟩) n cd] ∧ w'.cell? ⟨bb, oo + k, none⟩ = some (.slice A2 m c2) ∧ w'.cell? ⟨db, dof + k, none⟩ = some (.bool q)) (by kernel_rfl) (HS1.out _ HB) (fun hHeld => ?_)
      refine wpAnyH_take (i := 0) (oi := { dst := some 44, op := Go.Op.move (Go.Operand.tmp 0), type := 27, pos := "law.go:33", after := #[], guard := none }) (v := ?_) rfl (by kernel_rfl) (by kernel_rfl) (by kernel_rfl) (fun _ _ _ => np) (Or.inl ⟨by rfl, ?_⟩) (by assumption) ?_
      rotate_left
      · (intro _ hSw; (try dsimp only at hSw); clear hSw; go_simp; try with_reducible rfl)
      try simp only [Act.put, List.setIfInBounds_toArray, List.set_cons_zero, List.set_cons_succ]
      refine wpAnyH_take (i := 1) (oi := { dst := some 45, op := Go.Op.move (Go.Operand.tmp 5), type := 3, pos := "law.go:33", after := #[], guard := none }) (v := ?_) rfl (by kernel_rfl) (by kernel_rfl) (by kernel_rfl) (fun _ _ _ => np) (Or.inl ⟨by rfl, ?_⟩) (by assumption) ?_
      rotate_left
      · (intro _ hSw; (try dsimp only at hSw); clear hSw; go_simp; try with_reducible rfl)
      try simp only [Act.put, List.setIfInBounds_toArray, List.set_cons_zero, List.set_cons_succ]
      refine wpAnyH_take (i := 3) (oi := { dst := some 47, op := Go.Op.fieldAddr 33 (Go.Operand.tmp 3) 1, type := 0, pos := "law.go:33", after := #[], guard := none }) (v := ?_) rfl (by kernel_rfl) (by kernel_rfl) (by kernel_rfl) (fun _ _ _ => np) (Or.inl ⟨by rfl, ?_⟩) (by assumption) ?_
      rotate_left
      · (intro _ hSw; (try dsimp only at hSw); clear hSw; go_simp; try with_reducible rfl)
      try simp only [Act.put, List.setIfInBounds_toArray, List.set_cons_zero, List.set_cons_succ]
      refine wpAnyH_take (i := 4) (oi := { dst := some 48, op := Go.Op.load 23 (Go.Operand.tmp 47), type := 23, pos := "law.go:33", after := #[{ on := 3, ground := Go.Ground.data }], guard := none }) (v := .slice (some ⟨bb, oo, none⟩) n c) rfl (by kernel_rfl) (by kernel_rfl) (by kernel_rfl) (fun _ _ _ => np) (Or.inl ⟨by rfl, ?_⟩) (by assumption) ?_
      · (intro W hS; have hcl := ((hS.1 1 _ rfl : W.cell? ⟨w.heap.size, 1, none⟩ = some (.slice (some ⟨bb, oo, none⟩) n c))); clear hS; go_simp; try with_reducible rfl)
      try simp only [Act.put, List.setIfInBounds_toArray, List.set_cons_zero, List.set_cons_succ]
      refine wpAnyH_take (i := 5) (oi := { dst := some 49, op := Go.Op.move (Go.Operand.tmp 5), type := 3, pos := "law.go:33", after := #[], guard := none }) (v := ?_) rfl (by kernel_rfl) (by kernel_rfl) (by kernel_rfl) (fun _ _ _ => np) (Or.inl ⟨by rfl, ?_⟩) (by assumption) ?_
      rotate_left
      · (intro _ hSw; (try dsimp only at hSw); clear hSw; go_simp; try with_reducible rfl)
      try simp only [Act.put, List.setIfInBounds_toArray, List.set_cons_zero, List.set_cons_succ]
      refine wpAnyH_take (i := 6) (oi := { dst := some 50, op := Go.Op.indexAddr 23 (Go.Operand.tmp 48) (Go.Operand.tmp 49), type := 0, pos := "law.go:33", after := #[{ on := 4, ground := Go.Ground.data }, { on := 5, ground := Go.Ground.data }], guard := none }) (v := ?_) rfl (by kernel_rfl) (by kernel_rfl) (by kernel_rfl) (fun _ _ _ => np) (Or.inl ⟨by rfl, ?_⟩) (by assumption) ?_
      rotate_left
      · (intro _ hSw; (try dsimp only at hSw); clear hSw; go_simp; try with_reducible rfl)
      try simp only [Act.put, List.setIfInBounds_toArray, List.set_cons_zero, List.set_cons_succ]
      refine wpAnyH_take (i := 7) (oi := { dst := some 51, op := Go.Op.load 49 (Go.Operand.tmp 50), type := 49, pos := "law.go:33", after := #[{ on := 6, ground := Go.Ground.data }], guard := none }) (v := .slice A2 m c2) rfl (by kernel_rfl) (by kernel_rfl) (by kernel_rfl) (fun _ _ _ => np) (Or.inl ⟨by rfl, ?_⟩) (by assumption) ?_
      · (intro W hS; have hcl := (hS.2.1); clear hS; go_simp; try with_reducible rfl)
      try simp only [Act.put, List.setIfInBounds_toArray, List.set_cons_zero, List.set_cons_succ]
      refine wpAnyH_ready (rs := [2]) (by kernel_rfl) (by simp) ?_
      refine AllReadyH.cons rfl (fun K hK => ?_) AllReadyH.nil
      go_simp
      go_at_call 34
      refine (CR.out _ (UP.out (HBW.out.trans (HB.mono HBW.out.size)))).mono ?_
      rintro _ w2 ⟨v2, rfl, ho2, hb2⟩
      obtain ⟨A3, c3, rfl, _, _, r3⟩ := own_slice ho2
      have HB2 := HB.trans (hb2.mono HB.size)
      go_wp2_with fail
      refine hK.out _ _ (HS1.out _ HB2) (fun hHeld => ?_)
      clear hK K
      try simp only [Act.put, List.setIfInBounds_toArray, List.set_cons_zero, List.set_cons_succ]
      have hrr2 : Reads w2 w2.heap.size 3 A2 m (vs r) := by
        have h2 := UP.out (HBW.out.trans (HB2.mono HBW.out.size))
        have := (HRR.out.below h2).more h2.size
        rw [HRM.out] at this
        exact this
      refine wpAnyH_ready (rs := [8]) (by kernel_rfl) (by simp) ?_
      refine AllReadyH.cons rfl (fun K hK => ?_) AllReadyH.nil
      go_simp
      go_at_call 33
      refine (sameV_true A3 A2 m c3 c2 r w2 r3 hrr2 (by omega)).mono ?_
      rintro _ w3 ⟨rfl, hd3⟩
      have hb3 : Below w2.heap.size w2 w3 := hd3.below (Below.refl _ _)
      have HB3 := HB2.trans (hb3.mono HB2.size)
      go_wp2_with fail
      refine hK.out _ _ (HS1.out _ HB3) (fun hHeld => ?_)
      clear hK K
      try simp only [Act.put, List.setIfInBounds_toArray, List.set_cons_zero, List.set_cons_succ]
      refine wpAnyH_take (i := 9) (oi := { dst := some 53, op := Go.Op.unOp Go.UnOp.not 4 (Go.Operand.tmp 52), type := 4, pos := "law.go:33", after := #[{ on := 8, ground := Go.Ground.data }], guard := none }) (v := ?_) rfl (by kernel_rfl) (by kernel_rfl) (by kernel_rfl) (fun _ _ _ => np) (Or.inl ⟨by rfl, ?_⟩) (by assumption) ?_
      rotate_left
      · (intro _ hSw; (try dsimp only at hSw); clear hSw; go_simp; try with_reducible rfl)
      try simp only [Act.put, List.setIfInBounds_toArray, List.set_cons_zero, List.set_cons_succ]
      refine wpAnyH_take (i := 10) (oi := { dst := some 54, op := Go.Op.move (Go.Operand.tmp 53), type := 4, pos := "law.go:33", after := #[{ on := 9, ground := Go.Ground.data }, { on := 8, ground := Go.Ground.chain }], guard := none }) (v := ?_) rfl (by kernel_rfl) (by kernel_rfl) (by kernel_rfl) (fun _ _ _ => np) (Or.inl ⟨by rfl, ?_⟩) (by assumption) ?_
      rotate_left
      · (intro _ hSw; (try dsimp only at hSw); clear hSw; go_simp; try with_reducible rfl)
      try simp only [Act.put, List.setIfInBounds_toArray, List.set_cons_zero, List.set_cons_succ]
      refine wpAnyH_take (i := 11) (oi := { dst := some 55, op := Go.Op.move (Go.Operand.tmp 0), type := 27, pos := "law.go:33", after := #[{ on := 10, ground := Go.Ground.guard }], guard := some (10, false) }) (v := ?_) rfl (by kernel_rfl) (by kernel_rfl) (by kernel_rfl) (fun _ _ _ => np) (Or.inl ⟨by rfl, ?_⟩) (by assumption) ?_
      rotate_left
      · (intro _ hSw; (try dsimp only at hSw); clear hSw; go_simp; try with_reducible rfl)
      try simp only [Act.put, List.setIfInBounds_toArray, List.set_cons_zero, List.set_cons_succ]
      refine wpAnyH_take (i := 12) (oi := { dst := some 56, op := Go.Op.move (Go.Operand.tmp 5), type := 3, pos := "law.go:33", after := #[{ on := 10, ground := Go.Ground.guard }], guard := some (10, false) }) (v := ?_) rfl (by kernel_rfl) (by kernel_rfl) (by kernel_rfl) (fun _ _ _ => np) (Or.inl ⟨by rfl, ?_⟩) (by assumption) ?_
      rotate_left
      · (intro _ hSw; (try dsimp only at hSw); clear hSw; go_simp; try with_reducible rfl)
      try simp only [Act.put, List.setIfInBounds_toArray, List.set_cons_zero, List.set_cons_succ]
      refine wpAnyH_take (i := 14) (oi := { dst := some 58, op := Go.Op.fieldAddr 33 (Go.Operand.tmp 3) 2, type := 0, pos := "law.go:33", after := #[{ on := 10, ground := Go.Ground.guard }], guard := some (10, false) }) (v := ?_) rfl (by kernel_rfl) (by kernel_rfl) (by kernel_rfl) (fun _ _ _ => np) (Or.inl ⟨by rfl, ?_⟩) (by assumption) ?_
      rotate_left
      · (intro _ hSw; (try dsimp only at hSw); clear hSw; go_simp; try with_reducible rfl)
      try simp only [Act.put, List.setIfInBounds_toArray, List.set_cons_zero, List.set_cons_succ]
      refine wpAnyH_take (i := 15) (oi := { dst := some 59, op := Go.Op.load 31 (Go.Operand.tmp 58), type := 31, pos := "law.go:33", after := #[{ on := 14, ground := Go.Ground.data }, { on := 10, ground := Go.Ground.guard }], guard := some (10, false) }) (v := .slice (some ⟨db, dof, none⟩) n cd) rfl (by kernel_rfl) (by kernel_rfl) (by kernel_rfl) (fun _ _ _ => np) (Or.inl ⟨by rfl, ?_⟩) (by assumption) ?_
      · (intro W hS; have hcl := ((hS.1 2 _ rfl : W.cell? ⟨w.heap.size, 2, none⟩ = some (.slice (some ⟨db, dof, none⟩) n cd))); clear hS; go_simp; try with_reducible rfl)
      try simp only [Act.put, List.setIfInBounds_toArray, List.set_cons_zero, List.set_cons_succ]
      refine wpAnyH_take (i := 16) (oi := { dst := some 60, op := Go.Op.move (Go.Operand.tmp 5), type := 3, pos := "law.go:33", after := #[{ on := 10, ground := Go.Ground.guard }], guard := some (10, false) }) (v := ?_) rfl (by kernel_rfl) (by kernel_rfl) (by kernel_rfl) (fun _ _ _ => np) (Or.inl ⟨by rfl, ?_⟩) (by assumption) ?_
      rotate_left
      · (intro _ hSw; (try dsimp only at hSw); clear hSw; go_simp; try with_reducible rfl)
      try simp only [Act.put, List.setIfInBounds_toArray, List.set_cons_zero, List.set_cons_succ]
      refine wpAnyH_take (i := 17) (oi := { dst := some 61, op := Go.Op.indexAddr 31 (Go.Operand.tmp 59) (Go.Operand.tmp 60), type := 0, pos := "law.go:33", after := #[{ on := 15, ground := Go.Ground.data }, { on := 16, ground := Go.Ground.data }, { on := 10, ground := Go.Ground.guard }], guard := some (10, false) }) (v := ?_) rfl (by kernel_rfl) (by kernel_rfl) (by kernel_rfl) (fun _ _ _ => np) (Or.inl ⟨by rfl, ?_⟩) (by assumption) ?_
      rotate_left
      · (intro _ hSw; (try dsimp only at hSw); clear hSw; go_simp; try with_reducible rfl)
      try simp only [Act.put, List.setIfInBounds_toArray, List.set_cons_zero, List.set_cons_succ]
      refine wpAnyH_take (i := 18) (oi := { dst := some 62, op := Go.Op.load 4 (Go.Operand.tmp 61), type := 4, pos := "law.go:33", after := #[{ on := 17, ground := Go.Ground.data }, { on := 10, ground := Go.Ground.guard }], guard := some (10, false) }) (v := .bool q) rfl (by kernel_rfl) (by kernel_rfl) (by kernel_rfl) (fun _ _ _ => np) (Or.inl ⟨by rfl, ?_⟩) (by assumption) ?_
      · (intro W hS; have hcl := (hS.2.2); clear hS; go_simp; try with_reducible rfl)
      try simp only [Act.put, List.setIfInBounds_toArray, List.set_cons_zero, List.set_cons_succ]
      refine wpAnyH_ready (rs := [13]) (by kernel_rfl) (by simp) ?_
      refine AllReadyH.cons rfl (fun K hK => ?_) AllReadyH.nil
      go_simp
      go_at_call 35
      refine (CA.out _ (UP.out (HBW.out.trans (HB3.mono HBW.out.size)))).mono ?_
      rintro _ _ ⟨rfl, rfl⟩
      go_wp2_with fail
      refine hK.out _ _ (HS1.out _ HB3) (fun hHeld => ?_)
      clear hK K
      try simp only [Act.put, List.setIfInBounds_toArray, List.set_cons_zero, List.set_cons_succ]
      refine wpAnyH_take (i := 19) (oi := { dst := some 63, op := Go.Op.binOp Go.BinOp.eql 4 (Go.Operand.tmp 57) (Go.Operand.tmp 62) 4, type := 4, pos := "law.go:33", after := #[{ on := 13, ground := Go.Ground.data }, { on := 18, ground := Go.Ground.data }, { on := 10, ground := Go.Ground.guard }], guard := some (10, false) }) (v := ?_) rfl (by kernel_rfl) (by kernel_rfl) (by kernel_rfl) (fun _ _ _ => np) (Or.inl ⟨by rfl, ?_⟩) (by assumption) ?_
      rotate_left
      · (intro _ hSw; (try dsimp only at hSw); clear hSw; go_simp; try with_reducible rfl)
      try simp only [Act.put, List.setIfInBounds_toArray, List.set_cons_zero, List.set_cons_succ]
      refine wpAnyH_take (i := 20) (oi := { dst := some 64, op := Go.Op.pick (Go.Operand.tmp 54) (Go.Operand.const (Go.Value.bool true)) (Go.Operand.tmp 63), type := 4, pos := "law.go:33", after := #[{ on := 10, ground := Go.Ground.data }, { on := 19, ground := Go.Ground.data }], guard := none }) (v := ?_) rfl (by kernel_rfl) (by kernel_rfl) (by kernel_rfl) (fun _ _ _ => np) (Or.inl ⟨by rfl, ?_⟩) (by assumption) ?_
      rotate_left
      · (intro _ hSw; (try dsimp only at hSw); clear hSw; go_simp; try with_reducible rfl)
      try simp only [Act.put, List.setIfInBounds_toArray, List.set_cons_zero, List.set_cons_succ]
      refine wpAnyH_done (by kernel_rfl) ?_ _
      refine NoPanic.normal ?_
      have HB3' := Lib.hid (HBW.out.trans (HB3.mono HBW.out.size))
      clear HB HB2 HB3 hb2 hb3 hd3 ho2 r3 hrr2 hHeld
      go_wp2_with fail
      go_round
      case rel => exact ⟨k + 1, by omega, by go_num, HB3'.out⟩
      case measure => simp [intOf]; omega
    · obtain rfl : k = n := by omega
      have hkI : ¬ (k : Int) < (k : Int) := by omega
      have HBW := Lib.hid hbw
      clear hbw hlt
      go_wp2_with fail
      go_loopw [6] (fun s6 wx => ∃ j : Nat, j ≤ m ∧ s6 = .int .i64 (j : Int) ∧ Below W0.heap.size W0 wx) (fun s6 _ => m - (intOf s6).toNat)
      case atStart => exact ⟨0, Nat.zero_le _, rfl, HBW.out⟩
      case round =>
        obtain ⟨j, hj, rfl, hbx⟩ := hrel
        have hc0 : wr.cell? ⟨w.heap.size, 0, none⟩ = some (.slice S m cs) := HS0.out _ hbx 0 _ rfl
        by_cases hjm : j < m
        · obtain ⟨kd, nu, wy, hz, hck, hcl⟩ := CCS.out j hjm
          have CC := Lib.hid fun (W : World) (hb : Below w.heap.size w W) => CCh.out W hb j _ hck (by omega)
          have RC := Lib.hid fun (W : World) (hb : Below w.heap.size w W) => RCh.out W hb j hjm kd wy nu hz
          obtain ⟨B9, hB9⟩ : ∃ q, cpB kd wy (colV rows j) = q := ⟨_, rfl⟩
          rw [hB9] at CC RC hcl
          obtain ⟨l9, hl9⟩ : ∃ q, B9.length = q := ⟨_, rfl⟩
          rw [hl9] at CC RC hcl
          have hjI : (j : Int) < (m : Int) := by omega
          have HBX := Lib.hid hbx
          have HS1 : Hid (∀ (W : World), Below wr.heap.size wr W → W.rangeAt w.heap.size 0 [Value.slice S m cs, .slice A k c, .slice D k cd]) := Lib.hid fun W hW => HS0.out _ (HBX.out.trans (hW.mono HBX.out.size))
          clear hz hck hB9 hl9 hbx
          go_upto_region 11 with fail
          have HB := Below.drew (Below.refl wr.heap.size wr)
          refine wp_region_noPanic ?_
          refine wp_region_held_drew (S := fun w' => w'.rangeAt w.heap.size 0 [Value.slice S m cs, .slice A k c, .slice D k cd]) (by kernel_rfl) (HS1.out _ HB) (fun hHeld => ?_)
          refine wpAnyH_take (i := 0) (oi := { dst := some 72, op := Go.Op.move (Go.Operand.tmp 0), type := 27, pos := "law.go:38", after := #[], guard := none }) (v := ?_) rfl (by kernel_rfl) (by kernel_rfl) (by kernel_rfl) (fun _ _ _ => np) (Or.inl ⟨by rfl, ?_⟩) (by assumption) ?_
          rotate_left
          · (intro _ hSw; (try dsimp only at hSw); clear hSw; go_simp; try with_reducible rfl)
          try simp only [Act.put, List.setIfInBounds_toArray, List.set_cons_zero, List.set_cons_succ]
          refine wpAnyH_take (i := 1) (oi := { dst := some 73, op := Go.Op.move (Go.Operand.tmp 6), type := 3, pos := "law.go:38", after := #[], guard := none }) (v := ?_) rfl (by kernel_rfl) (by kernel_rfl) (by kernel_rfl) (fun _ _ _ => np) (Or.inl ⟨by rfl, ?_⟩) (by assumption) ?_
          rotate_left
          · (intro _ hSw; (try dsimp only at hSw); clear hSw; go_simp; try with_reducible rfl)
          try simp only [Act.put, List.setIfInBounds_toArray, List.set_cons_zero, List.set_cons_succ]
          refine wpAnyH_take (i := 3) (oi := { dst := some 75, op := Go.Op.load 33 (Go.Operand.tmp 3), type := 33, pos := "law.go:38", after := #[], guard := none }) (v := .agg X3) rfl (by kernel_rfl) (by kernel_rfl) (by kernel_rfl) (fun _ _ _ => np) (yieldsIf_load_midX (by rfl) 33 (.tmp 3) rfl w.heap.size 0 rfl [Value.slice S m cs, .slice A k c, .slice D k cd] X3 HX3.out _ (fun w' hS => hS) Tryz.underlying33 rfl HXI.out) (by assumption) ?_
          try simp only [Act.put, List.setIfInBounds_toArray, List.set_cons_zero, List.set_cons_succ]
          refine wpAnyH_take (i := 4) (oi := { dst := some 76, op := Go.Op.move (Go.Operand.tmp 6), type := 3, pos := "law.go:38", after := #[], guard := none }) (v := ?_) rfl (by kernel_rfl) (by kernel_rfl) (by kernel_rfl) (fun _ _ _ => np) (Or.inl ⟨by rfl, ?_⟩) (by assumption) ?_
          rotate_left
          · (intro _ hSw; (try dsimp only at hSw); clear hSw; go_simp; try with_reducible rfl)
          try simp only [Act.put, List.setIfInBounds_toArray, List.set_cons_zero, List.set_cons_succ]
          refine wpAnyH_ready (rs := [2]) (by kernel_rfl) (by simp) ?_
          refine AllReadyH.cons rfl (fun K hK => ?_) AllReadyH.nil
          go_simp
          go_at_call 36
          refine (CC.out _ (UP.out (HBX.out.trans (HB.mono HBX.out.size)))).mono ?_
          rintro _ w2 ⟨v2, rfl, ho2, hb2⟩
          obtain ⟨A2, c2, rfl, _, _, _⟩ := own_slice ho2
          have HB2 := HB.trans (hb2.mono HB.size)
          go_wp2_with fail
          refine hK.out _ _ (HS1.out _ HB2) (fun hHeld => ?_)
          clear hK K
          try simp only [Act.put, List.setIfInBounds_toArray, List.set_cons_zero, List.set_cons_succ]
          refine wpAnyH_ready (rs := [5]) (by kernel_rfl) (by simp) ?_
          refine AllReadyH.cons rfl (fun K hK => ?_) AllReadyH.nil
          go_simp
          go_at_call 37
          refine (RC.out _ (UP.out (HBX.out.trans (HB2.mono HBX.out.size)))).mono ?_
          rintro _ w3 ⟨v3, rfl, ho3, hb3⟩
          obtain ⟨A3, c3, rfl, _, _, r3⟩ := own_slice ho3
          have HB3 := HB2.trans (hb3.mono HB2.size)
          go_wp2_with fail
          refine hK.out _ _ (HS1.out _ HB3) (fun hHeld => ?_)
          clear hK K
          try simp only [Act.put, List.setIfInBounds_toArray, List.set_cons_zero, List.set_cons_succ]
          refine wpAnyH_ready (rs := [6]) (by kernel_rfl) (by simp) ?_
          refine AllReadyH.cons rfl (fun K hK => ?_) AllReadyH.nil
          go_simp
          go_at_call 31
          have hsm := same_any A2 A3 l9 c2 l9 c3 B9 B9 w3 (Reads.of_own (own_below ho2 hb3)) r3 (by omega)
          rw [sameB_true (rfl : B9 = B9)] at hsm
          refine hsm.mono ?_
          rintro _ w4 ⟨rfl, hd4⟩
          have hb4 : Below w3.heap.size w3 w4 := hd4.below (Below.refl _ _)
          have HB4 := HB3.trans (hb4.mono HB3.size)
          clear hsm
          go_wp2_with fail
          refine hK.out _ _ (HS1.out _ HB4) (fun hHeld => ?_)
          clear hK K
          try simp only [Act.put, List.setIfInBounds_toArray, List.set_cons_zero, List.set_cons_succ]
          refine wpAnyH_take (i := 7) (oi := { dst := some 79, op := Go.Op.unOp Go.UnOp.not 4 (Go.Operand.tmp 78), type := 4, pos := "law.go:38", after := #[{ on := 6, ground := Go.Ground.data }], guard := none }) (v := ?_) rfl (by kernel_rfl) (by kernel_rfl) (by kernel_rfl) (fun _ _ _ => np) (Or.inl ⟨by rfl, ?_⟩) (by assumption) ?_
          rotate_left
          · (intro _ hSw; (try dsimp only at hSw); clear hSw; go_simp; try with_reducible rfl)
          try simp only [Act.put, List.setIfInBounds_toArray, List.set_cons_zero, List.set_cons_succ]
          refine wpAnyH_done (by kernel_rfl) ?_ _
          refine NoPanic.normal ?_
          have HB4' := Lib.hid (HBX.out.trans (HB4.mono HBX.out.size))
          clear HB HB2 HB3 HB4 hb2 hb3 hb4 hd4 ho2 ho3 r3 hHeld
          go_wp2_with fail
          go_round
          case rel => exact ⟨j + 1, by omega, by go_num, HB4'.out⟩
          case measure => simp [intOf]; omega
        · obtain rfl : j = m := by omega
          have hjI : ¬ (j : Int) < (j : Int) := by omega
          have hc1 : wr.cell? ⟨w.heap.size, 1, none⟩ = some (.slice A k c) := HS0.out _ hbx 1 _ rfl
          have HUX := Lib.hid (UP.out hbx)
          clear hbx
          go_wp2_with fail
          refine (CRowN.out _ HUX.out (-1) (.inl (by omega))).mono ?_
          rintro _ _ ⟨rfl, rfl⟩
          go_wp2_with fail
          refine (CRowN.out _ HUX.out (k : Int) (.inr (by omega))).mono ?_
          rintro _ _ ⟨rfl, rfl⟩
          go_wp2_with fail
          refine (CChN.out _ HUX.out (-1) (.inl (by omega))).mono ?_
          rintro _ _ ⟨rfl, rfl⟩
          go_wp2_with fail
          refine (CChN.out _ HUX.out (j : Int) (.inr (by omega))).mono ?_
          rintro _ _ ⟨rfl, rfl⟩
          go_wp2_with fail
          refine (CAlN.out _ HUX.out (-1) (.inl (by omega))).mono ?_
          rintro _ _ ⟨rfl, rfl⟩
          go_wp2_with fail
          refine (CAlN.out _ HUX.out (k : Int) (.inr (by omega))).mono ?_
          rintro _ _ ⟨rfl, rfl⟩
          go_wp2_with fail
          go_ret
          exact ⟨rfl, HUX.out⟩
end
end Go.Proofs.YtpgdlmnhomnblaaGreatDoor
