/- The walk of the statement TreeFolds. -/
import Derived.Test.YtkopoepoinkpeaaDoorJ27
import Derived.Test.YtkopoepoinkpeaaDoorTrRefFold
namespace Go.Proofs.YtkopoepoinkpeaaDoor
open Go.RowKit
set_option linter.unusedVariables false
set_option linter.unusedSimpArgs false
set_option maxRecDepth 100000

set_option maxHeartbeats 4000000 in
theorem foldsT19_any (d : List Nat) (i n : Int) (ds : List (List Nat)) (A : Option Addr) (m c : Nat) (w : World) (h32 : d.length = 32) (hd : ∀ b ∈ d, b < 256) (hm : ds.length = m) (hdg : Dg ds) (hat : HsAt w A ds) (hc : m ≤ c) (hm0 : m ≤ 9223372036854775807) (hn0 : -9223372036854775808 ≤ n) (ht : ShTab w) :
    Calls Tryd.prog 4 #[.agg (bs d).toArray, .int .i64 i, .int .i64 n, .slice A m c] w fun e w' => e = .returned (.bool true) ∧ Below w.heap.size w w' := by
  obtain ⟨VD, hVD, hvz, hon, hvi⟩ := hash_ok d h32
  have b1 := (Below.refl w.heap.size w).alloc (Nat.le_refl _) (.cells VD 31)
  have k1 := Blk.new w 31 VD
  obtain ⟨W0, hW0⟩ : ∃ W0, w.alloc (.cells VD 31) = W0 := ⟨_, rfl⟩
  rw [hW0] at b1 k1
  rw [hVD]
  have hz := (zero_of_info info_hash).1
  have HRD : Hid (W0.rangeAt w.heap.size 0 (bs d)) := Lib.hid (by rw [← hVD] at k1; exact k1.range)
  have hlt : w.heap.size < W0.heap.size := k1.lt
  have HB1 := Lib.hid b1; have HT := Lib.hid (ht.next b1); have HAT := Lib.hid (hat.next b1); have HDG := Lib.hid hdg; have HD := Lib.hid hd; have H32 := Lib.hid h32; have HM := Lib.hid hm
  have HID := Lib.hid (hash_size d h32); have HVD := Lib.hid hVD
  clear b1 k1 ht hat hdg hd h32 hm hVD hvz hon hvi
  by_cases h60 : 60 < m
  · have h60' : 60 < (m : Int) := by omega
    have HAW := Lib.hid (awake19_any W0 HT.out)
    go_enter Tryd.func4, Tryd.ntmps4
    go_wp2_with fail
    refine HAW.out.mono ?_
    rintro _ w2 ⟨rfl, hb⟩
    have HB := Lib.hid (HB1.out.trans (hb.mono HB1.out.size))
    clear hb
    go_wp2_with fail
    go_ret
    exact ⟨rfl, HB.out⟩
  · have h60' : ¬ 60 < (m : Int) := by omega
    obtain ⟨V, hV, hvz, hon, hvi⟩ := hash_ok (fldV d i n ds) (fldV_len i n ds H32.out)
    have HV := Lib.hid hV; have HVZ := Lib.hid hvz; have HON := Lib.hid hon; have HVI := Lib.hid hvi
    have HIV := Lib.hid (hash_size (fldV d i n ds) (fldV_len i n ds H32.out))
    obtain ⟨q, hq⟩ : ∃ q, okF i n ds.length = q := ⟨_, rfl⟩
    have HC1 : Hid (Calls Tryd.prog 22 #[.agg VD, .int .i64 i, .int .i64 n, .slice A m c] W0 fun e w' => e = .returned (.tuple #[.agg V, .bool q]) ∧ Below W0.heap.size W0 w') := Lib.hid (by
      have := fold_any d i n ds A m c W0 H32.out HD.out HM.out HDG.out HAT.out hc (by omega) hn0 HT.out
      unfold FoldTo at this
      rw [hV, hq, HVD.out] at this
      exact this)
    have HC2 : Hid (∀ W, Below W0.heap.size W0 W → Calls Tryd.prog 23 #[.agg VD, .int .i64 i, .int .i64 n, .slice A m c] W fun e w' => e = .returned (.tuple #[.agg V, .bool q]) ∧ Below W.heap.size W w') := Lib.hid fun W hW => by
      have := refFold_any n.toNat n rfl d i ds A m c W H32.out HD.out HM.out HDG.out (HAT.out.next hW) hc (by omega)
      unfold FoldTo at this
      rw [hV, hq, HVD.out] at this
      exact this
    have HE : Hid (∀ W, (binOp .eql 31 (.agg V) (.agg V)).run Tryd.prog W = .ok (.bool true) W) := Lib.hid fun W => by
      have := eqlD W (fldV d i n ds) (fldV d i n ds) (fldV_len i n ds H32.out) (fldV_len i n ds H32.out)
      rw [hV] at this
      simpa using this
    have hqq : (q == q) = true := by simp
    clear hV hvz hon hvi hq
    go_enter Tryd.func4, Tryd.ntmps4
    go_wp2_with (refine wpQ_load (by rfl) 31 (.tmp 4) rfl w.heap.size 0 rfl (bs d) VD HVD.out _ HRD.out Tryd.underlying31 rfl HID.out ?_)
    refine HC1.out.mono ?_
    rintro _ w1 ⟨rfl, hb1⟩
    have k3 := Blk.new w1 31 (Array.replicate 32 (.int .u8 0))
    have k4 := k3.row V
    have b4 := Below.row ((Below.refl w1.heap.size w1).alloc (Nat.le_refl _) (.cells (Array.replicate 32 (.int .u8 0)) 31)) (Nat.le_refl _) V
    have HK3 := Lib.hid k3
    have B04 := hb1.trans (b4.mono hb1.size)
    obtain ⟨W4, hW4⟩ : ∃ W4, (w1.alloc (.cells (Array.replicate 32 (.int .u8 0)) 31)).setRow w1.heap.size V = W4 := ⟨_, rfl⟩
    rw [hW4] at k4 b4 B04
    have HRD4 : Hid (W4.rangeAt w.heap.size 0 (bs d)) := Lib.hid fun j v hv => (B04.cell (p := ⟨w.heap.size, 0 + j, none⟩) hlt).trans (HRD.out j v hv)
    have HK4 := Lib.hid k4; have HB04 := Lib.hid B04
    clear k3 k4 b4 B04 hb1
    go_wp2_with (first
      | (refine wpList_store_row (by rfl) (.tmp 9) (.tmp 23) (by rfl) (by rfl) (by rfl) HK3.out HVI.out (by rw [HVZ.out]; simp) HON.out ?_)
      | refine wpQ_load (by rfl) 31 (.tmp 4) rfl w.heap.size 0 rfl (bs d) VD HVD.out _ (by first | exact HRD4.out | (rw [hW4]; exact HRD4.out)) Tryd.underlying31 rfl HID.out ?_)
    try rw [hW4]
    clear hW4
    refine (HC2.out _ HB04.out).mono ?_
    rintro _ w5 ⟨rfl, hb5⟩
    have k5 := Blk.new w5 31 (Array.replicate 32 (.int .u8 0))
    have k6 := k5.row V
    have b6 := Below.row ((Below.refl w5.heap.size w5).alloc (Nat.le_refl _) (.cells (Array.replicate 32 (.int .u8 0)) 31)) (Nat.le_refl _) V
    have HK5 := Lib.hid k5
    have K46 := (HK4.out.below hb5 HK4.out.lt).below b6 (Nat.lt_of_lt_of_le HK4.out.lt hb5.size)
    have B06 := (HB04.out.trans (hb5.mono HB04.out.size)).trans (b6.mono (Nat.le_trans HB04.out.size hb5.size))
    obtain ⟨W6, hW6⟩ : ∃ W6, (w5.alloc (.cells (Array.replicate 32 (.int .u8 0)) 31)).setRow w5.heap.size V = W6 := ⟨_, rfl⟩
    rw [hW6] at k6 K46 B06
    have HR4 : Hid (W6.rangeAt w1.heap.size 0 (bs (fldV d i n ds))) := Lib.hid (by rw [← HV.out] at K46; exact K46.range)
    have HR6 : Hid (W6.rangeAt w5.heap.size 0 (bs (fldV d i n ds))) := Lib.hid (by rw [← HV.out] at k6; exact k6.range)
    have HB06 := Lib.hid B06
    have HAW := Lib.hid (awake19_any W6 (HT.out.next B06))
    clear k5 k6 b6 K46 B06 hb5
    go_wp2_with (first
      | (refine wpList_store_row (by rfl) (.tmp 11) (.tmp 31) (by rfl) (by rfl) (by rfl) HK5.out HVI.out (by rw [HVZ.out]; simp) HON.out ?_)
      | refine wpQ_load (by rfl) 31 (.tmp 9) rfl w1.heap.size 0 rfl (bs (fldV d i n ds)) V HV.out _ (by first | exact HR4.out | (rw [hW6]; exact HR4.out)) Tryd.underlying31 rfl HIV.out ?_
      | refine wpQ_load (by rfl) 31 (.tmp 11) rfl w5.heap.size 0 rfl (bs (fldV d i n ds)) V HV.out _ (by first | exact HR6.out | (rw [hW6]; exact HR6.out)) Tryd.underlying31 rfl HIV.out ?_
      | refine wpList_bin (by rfl) .eql 31 _ (.tmp 33) (.tmp 34) rfl V V rfl rfl hash_guard _ HE.out ?_)
    try rw [hW6]
    clear hW6
    refine HAW.out.mono ?_
    rintro _ w7 ⟨rfl, hb7⟩
    have HB := Lib.hid (HB1.out.trans ((HB06.out.trans (hb7.mono HB06.out.size)).mono HB1.out.size))
    clear hb7
    go_wp2_with fail
    go_ret
    exact ⟨rfl, HB.out⟩
end Go.Proofs.YtkopoepoinkpeaaDoor
