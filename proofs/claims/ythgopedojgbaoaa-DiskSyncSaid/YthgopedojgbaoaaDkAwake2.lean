/- Contract of the statements' awake: the document's example holds. -/
import Derived.Test.YthgopedojgbaoaaDkAwake
namespace Go.Proofs.Ythgopedojgbaoaa
open Go.RowKit Go.Maps Go.WideMaps Go.ChangeMaps
set_option linter.unusedVariables false
set_option linter.unusedSimpArgs false
set_option maxRecDepth 100000

theorem awake_any (w : World) : Calls Try.prog 7 #[] w fun e w' => e = .returned (.bool true) ∧ Below w.heap.size w w' := by
  go_enter Try.func7, Try.ntmps7
  go_wp2_with fail
  refine (New_yes 9 (by omega) w).mono ?_
  rintro e w1 ⟨d, X1, rfl, h1, hs1⟩
  go_wp2_with fail
  have hq1 := Append_any (h1.alloc (.cells #[.int .u8 1, .int .u8 2, .int .u8 3] 5)) ⟨#[97]⟩ _ 3 3 [1, 2, 3] (Src.lit h1 [1, 2, 3] (by decide) 3 rfl (by unfold maxLen; omega) _ rfl)
  refine hq1.mono ?_
  clear hq1
  rintro e w2 ⟨rfl, X2, h2, hs2⟩
  have hs2' := hs1.trans (((Step.refl w1 X1).alloc _).trans hs2)
  have h2' : Dsk w2 X2 d aw1.2 := h2
  rw [show ((St.new 9).deed (fun T => T.add (⟨#[97]⟩ : ByteArray).data.toList [1, 2, 3]) (fun T => T.add (⟨#[97]⟩ : ByteArray).data.toList [1, 2, 3])).1 = 0 from aw1_0]
  have H1 := Lib.hid hs2'
  clear h1 hs1 h2 hs2 hs2'
  go_wp2_with fail
  refine (Sync_any h2' ⟨#[97]⟩).mono ?_
  rintro e w3 ⟨rfl, X3, h3, hs3⟩
  have h3' : Dsk w3 X3 d aw2.2 := h3
  rw [show (aw1.2.deed (fun T => T.on (⟨#[97]⟩ : ByteArray).data.toList (actSync (⟨#[97]⟩ : ByteArray).data.toList)) (fun T => (0, T))).1 = 0 from aw2_0]
  have H2 := Lib.hid (H1.out.trans hs3)
  clear h2' h3 hs3 H1
  go_wp2_with fail
  have hq3 := Append_any (h3'.alloc (.cells #[.int .u8 4] 5)) ⟨#[97]⟩ _ 1 1 [4] (Src.lit h3' [4] (by decide) 1 rfl (by unfold maxLen; omega) _ rfl)
  refine hq3.mono ?_
  clear hq3
  rintro e w4 ⟨rfl, X4, h4, hs4⟩
  have h4' : Dsk w4 X4 d aw3.2 := h4
  rw [show (aw2.2.deed (fun T => T.add (⟨#[97]⟩ : ByteArray).data.toList [4]) (fun T => T.add (⟨#[97]⟩ : ByteArray).data.toList [4])).1 = 0 from aw3_0]
  have H3 := Lib.hid (H2.out.trans (((Step.refl w3 X3).alloc _).trans hs4))
  clear h3' h4 hs4 H2
  go_wp2_with fail
  have hq5 := Boot_any (h4'.alloc (.cells #[.int .i64 0] 3)) _ 1 1 [0] (Ints.lit h4' 0 (by omega))
  refine hq5.mono ?_
  clear hq5
  rintro e w5 ⟨rfl, ts, hts, h5, hs5⟩
  obtain rfl := aw_names hts h4'.1
  have h5' : Dsk w5 X4 d (aw4 [[97]]) := h5
  have H4 := Lib.hid (H3.out.trans (((Step.refl w4 X4).alloc _).trans hs5))
  clear h4' h5 hs5 H3 hts
  go_wp2_with fail
  refine (Read_any h5' ⟨#[97]⟩).mono ?_
  rw [show (aw4 [[97]]).read (⟨#[97]⟩ : ByteArray).data.toList = (0, [1, 2, 3]) from aw4_r]
  rintro e w6 ⟨v, rfl, ho6, hb6⟩
  have hb7 := (H4.out.below (B := w.heap.size) (fun i hi => hi.elim) (Nat.le_refl _)).trans (hb6.mono (H4.out.size))
  obtain ⟨A6, c6, rfl, _, _, hr6⟩ := own_slice ho6
  have H5 := Lib.hid hb7
  have h6s := hb6.size
  clear H4 hb7 hb6 h5' ho6
  go_wp2_with fail
  refine (same_any A6 _ 3 c6 3 3 [1, 2, 3] [1, 2, 3] _ ((hr6.alloc (Nat.le_refl _) _).more (by simp)) (reads_blk (Blk.new _ 5 #[.int .u8 1, .int .u8 2, .int .u8 3]) _ 3 _ (by simp) rfl rfl) (by omega)).mono ?_
  rintro e w7 ⟨rfl, hd7⟩
  rw [sameB_true rfl]
  go_wp2_with fail
  go_ret
  exact ⟨rfl, hd7.below (H5.out.alloc H5.out.size _)⟩
end Go.Proofs.Ythgopedojgbaoaa
