/- Contract of package sha's filling: what bytes are filled up with. -/
import Derived.Test.YtfpbijnlmlaloaaDoorJ2
import Derived.Test.YtfpbijnlmlaloaaDoorShaPlain
import Derived.Deep.LoopGhost
namespace Go.Proofs.YtfpbijnlmlaloaaDoor
open Go.RowKit
set_option linter.unusedVariables false
set_option linter.unusedSimpArgs false
set_option maxRecDepth 100000

theorem own_of_blkS {w : World} {base g cap n : Nat} {t : TypeId} {cur : Array Value} {xs : List Value} (h : Blk w g t cur) (hb : base ≤ g) (hn : n ≤ cap) (hc : cap ≤ maxLen) (hs : cur.size = cap) (hx : cur.toList.take n = xs) : w.ownsRow base t 1 (.slice (some ⟨g, 0, none⟩) n cap) n xs := by
  refine ⟨by rw [← hx, List.length_take]; simp; omega, .inr ⟨g, cap, cur, rfl, hb, h, hn, hc, by omega, by simpa using hx⟩⟩
theorem run_make_cap (n c : Nat) (hn : n ≤ c) (hc : c ≤ 281474976710656) (w : World) :
    (Instr.makeSlice 36 (.int .u64 (n : Int)) (.int .i64 (c : Int))).run Tryd.prog w = .ok (.slice (some ⟨w.heap.size, 0, none⟩) n c) (w.alloc (.cells (madeCells #[.int .u8 0] c) 5)) := by
  obtain ⟨i, hi, hz0, hz1, hz2⟩ := info_parts info_u8
  have hr := run_make (P := Tryd.prog) w 36 5 i _ Tryd.underlying36 hi hz0 .u64 .i64 n c (by omega) (by omega) (by rw [hz2]; omega) (by omega)
  rw [hz1] at hr
  simpa [Value.cells] using hr
theorem fill_cells (z : Nat) (hz : z < 64) : (((madeCells #[.int .u8 0] 73).setIfInBounds 0 (.int .u8 128)).toList.take (1 + z)) = bs (128 :: List.replicate z 0) := by
  rw [Array.toList_setIfInBounds, toList_madeCells_one, List.take_set, List.take_replicate, show min (1 + z) 73 = z + 1 by omega, List.replicate_succ]
  simp [bs]
set_option maxHeartbeats 1000000 in
theorem filling_any (n : Nat) (w : World) (hn : n ≤ 1152921504606846976) :
    Calls Tryd.prog 45 #[.int .u64 (n : Int)] w (New w (bs (tailF n)) (9 + zsS n)) := by
  obtain ⟨i0, hi0, hz0, hz1, hz2⟩ := info_parts info_u8
  obtain ⟨z, hz⟩ : ∃ z, zsS n = z := ⟨_, rfl⟩
  obtain ⟨ov, hov⟩ : ∃ ov : Nat, (n + 9) % 64 = ov := ⟨_, rfl⟩
  have hov1 : ((n : Int) + 1 + 8) % 64 = (ov : Int) := by omega
  have hov2 : ((n : Int) + 9) % 64 = (ov : Int) := by omega
  have hov3 : ov < 64 := by omega
  have hz64 : z < 64 := by rw [← hz]; unfold zsS; omega
  have hzi : (64 - (ov : Int)) % 64 = (z : Int) := by rw [← hz]; unfold zsS; omega
  obtain ⟨m, hm⟩ : ∃ m : Nat, 1 + z = m := ⟨_, rfl⟩
  have hmi : 1 + (z : Int) = (m : Int) := by omega
  have hm0 : (0 : Int) < (m : Int) := by omega
  have hmk := run_make_cap m 73 (by omega) (by omega) w
  rw [show ((73 : Nat) : Int) = 73 from rfl] at hmk
  have hB := Blk.new w 5 (madeCells #[.int .u8 0] 73)
  have hc := hB.cell 0
  rw [show (madeCells #[.int .u8 0] 73)[0]? = some (.int .u8 0) by rw [← Array.getElem?_toList, toList_madeCells_one]; rfl] at hc
  have hfz := hB.frozen 0
  have hown : ((w.alloc (.cells (madeCells #[.int .u8 0] 73) 5)).setCell ⟨w.heap.size, 0, none⟩ (.int .u8 128)).ownsRow w.heap.size 5 1 (.slice (some ⟨w.heap.size, 0, none⟩) m 73) m (bs (128 :: List.replicate z 0)) :=
    own_of_blkS (hB.set_ 0 (.int .u8 128)) (Nat.le_refl _) (by omega) (by unfold maxLen; omega) (by rw [Array.size_setIfInBounds, size_madeCells]) (by rw [← hm]; exact fill_cells z hz64)
  have hb : Below w.heap.size w ((w.alloc (.cells (madeCells #[.int .u8 0] 73) 5)).setCell ⟨w.heap.size, 0, none⟩ (.int .u8 128)) := ((Below.refl _ _).alloc (Nat.le_refl _) _).setCell (Nat.le_refl _) _
  obtain ⟨w1, hw1⟩ : ∃ w1 : World, w1 = w.alloc (.cells (madeCells #[.int .u8 0] 73) 5) := ⟨_, rfl⟩
  rw [← hw1] at hmk hc hfz hown hb
  have HO := Lib.hid hown; have HB := Lib.hid hb; have HZ := Lib.hid hz; have HM := Lib.hid hm
  clear hown hb hz hm hov hw1 hB
  obtain ⟨cc, hcc⟩ : ∃ c : Nat, n * 8 = c := ⟨_, rfl⟩
  have hcci : (n : Int) * 8 = (cc : Int) := by omega
  have hccl : cc < 18446744073709551616 := by omega
  have HC := Lib.hid hcc; clear hcc
  go_enter Tryd.func45, Tryd.ntmps45
  go_wp2_with fail
  obtain ⟨w2, hw2⟩ : ∃ w2 : World, w2 = w1.setCell ⟨w.heap.size, 0, none⟩ (.int .u8 128) := ⟨_, rfl⟩
  rw [← hw2] at HO HB ⊢
  clear hw2 hmk hc hfz hov1 hov2 hov3 hzi hmi hm0 hcci
  generalize (64 - (ov : Int)) % 64 = q13
  generalize ((n : Int) + 1 + 8) % 64 = q10
  generalize 64 - (ov : Int) = q12
  go_loopg [4, 6] 8 (fun g s4 s6 wr => ∃ j : Nat, j + g = 8 ∧ s6 = .int .i64 (56 - 8 * (j : Int)) ∧ Hid (wr.ownsRow w.heap.size 5 1 s4 (m + j) (bs (128 :: List.replicate z 0 ++ (be8 cc).take j))) ∧ Hid (Below w.heap.size w wr))
  case atStart => exact ⟨0, by omega, rfl, Lib.hid (by simpa using HO.out), HB⟩
  case round =>
    clear HO HB
    obtain ⟨j, hjg, rfl, hown, hb⟩ := hrel
    obtain ⟨Av, cv, rfl, _⟩ := own_slice hown.out
    have hm73 : m + 8 ≤ 72 := by have := HM.out; omega
    cases gk with
    | zero =>
      obtain rfl : j = 8 := by omega
      clear hjg
      go_wp2_with fail
      go_ret
      have ho := hown.out
      rw [List.take_of_length_le (show (be8 cc).length ≤ 8 from Nat.le_refl _), ← HC.out, ← HZ.out, show m + 8 = 9 + zsS n by rw [HZ.out, ← HM.out]; omega] at ho
      exact ⟨_, by first | rfl | exact ret_of (by rw [show m + 8 = 9 + zsS n by rw [HZ.out, ← HM.out]; omega]), by first | exact ho | (rw [show m + 8 = 9 + zsS n by rw [HZ.out, ← HM.out]; omega]; exact ho), hb.out⟩
    | succ g =>
      have hj : j = 0 ∨ j = 1 ∨ j = 2 ∨ j = 3 ∨ j = 4 ∨ j = 5 ∨ j = 6 ∨ j = 7 := by omega
      rcases hj with rfl | rfl | rfl | rfl | rfl | rfl | rfl | rfl
      · have hv : (cc : Int) / 72057594037927936 = ((cc / 72057594037927936 % 256 : Nat) : Int) := by omega
        obtain ⟨y, hy⟩ : ∃ y : Nat, cc / 72057594037927936 % 256 = y := ⟨_, rfl⟩
        rw [hy] at hv
        have HY := Lib.hid hy
        clear hy
        have HO1 := Lib.hid (hown.out.alloc (.cells #[.int .u8 (y : Int)] 5))
        have HSZ2 := Lib.hid (show w.heap.size ≤ (wr.alloc (.cells #[.int .u8 (y : Int)] 5)).heap.size by have := hb.out.size; simp; omega)
        go_wp2_with (at_builtin
                     refine wpList_append_any _ rfl (.tmp 24) (.tmp 29) _ rfl w.heap.size 5 i0 _ 1 1 Tryd.underlying36 hi0 hz0 hz1 hz2 rfl (by omega) (.slice Av m cv) m _ rfl
                       HO1.out (wr.heap.size + 1) (some ⟨wr.heap.size, 0, none⟩) 1 1 [.int .u8 (y : Int)] rfl (Reads.new wr _ _) (one_int _ _) (by unfold maxLen; omega) (by omega) HSZ2.out ?_
                     intro v3 w3 hown3 hg3 hat3)
        go_roundg g
        case measure => omega
        case rel =>
          refine ⟨1, by omega, by go_num, Lib.hid ?_, Lib.hid (((hb.out.alloc hb.out.size _).grown hg3 (HSZ2.out) (fun k hk => (HO1.out.lt k hk).1)))⟩
          have e : 128 :: List.replicate z 0 ++ (be8 cc).take 1 = 128 :: List.replicate z 0 ++ (be8 cc).take 0 ++ [y] := by
            rw [← HY.out]; simp [be8]
          rw [e, bs_append]
          exact hown3
      · have hv : (cc : Int) / 281474976710656 % 256 = ((cc / 281474976710656 % 256 : Nat) : Int) := by omega
        obtain ⟨y, hy⟩ : ∃ y : Nat, cc / 281474976710656 % 256 = y := ⟨_, rfl⟩
        rw [hy] at hv
        have HY := Lib.hid hy
        clear hy
        have HO1 := Lib.hid (hown.out.alloc (.cells #[.int .u8 (y : Int)] 5))
        have HSZ2 := Lib.hid (show w.heap.size ≤ (wr.alloc (.cells #[.int .u8 (y : Int)] 5)).heap.size by have := hb.out.size; simp; omega)
        go_wp2_with (at_builtin
                     refine wpList_append_any _ rfl (.tmp 24) (.tmp 29) _ rfl w.heap.size 5 i0 _ 1 1 Tryd.underlying36 hi0 hz0 hz1 hz2 rfl (by omega) (.slice Av (m + 1) cv) (m + 1) _ rfl
                       HO1.out (wr.heap.size + 1) (some ⟨wr.heap.size, 0, none⟩) 1 1 [.int .u8 (y : Int)] rfl (Reads.new wr _ _) (one_int _ _) (by unfold maxLen; omega) (by omega) HSZ2.out ?_
                     intro v3 w3 hown3 hg3 hat3)
        go_roundg g
        case measure => omega
        case rel =>
          refine ⟨2, by omega, by go_num, Lib.hid ?_, Lib.hid (((hb.out.alloc hb.out.size _).grown hg3 (HSZ2.out) (fun k hk => (HO1.out.lt k hk).1)))⟩
          have e : 128 :: List.replicate z 0 ++ (be8 cc).take 2 = 128 :: List.replicate z 0 ++ (be8 cc).take 1 ++ [y] := by
            rw [← HY.out]; simp [be8]
          rw [e, bs_append]
          exact hown3
      · have hv : (cc : Int) / 1099511627776 % 256 = ((cc / 1099511627776 % 256 : Nat) : Int) := by omega
        obtain ⟨y, hy⟩ : ∃ y : Nat, cc / 1099511627776 % 256 = y := ⟨_, rfl⟩
        rw [hy] at hv
        have HY := Lib.hid hy
        clear hy
        have HO1 := Lib.hid (hown.out.alloc (.cells #[.int .u8 (y : Int)] 5))
        have HSZ2 := Lib.hid (show w.heap.size ≤ (wr.alloc (.cells #[.int .u8 (y : Int)] 5)).heap.size by have := hb.out.size; simp; omega)
        go_wp2_with (at_builtin
                     refine wpList_append_any _ rfl (.tmp 24) (.tmp 29) _ rfl w.heap.size 5 i0 _ 1 1 Tryd.underlying36 hi0 hz0 hz1 hz2 rfl (by omega) (.slice Av (m + 2) cv) (m + 2) _ rfl
                       HO1.out (wr.heap.size + 1) (some ⟨wr.heap.size, 0, none⟩) 1 1 [.int .u8 (y : Int)] rfl (Reads.new wr _ _) (one_int _ _) (by unfold maxLen; omega) (by omega) HSZ2.out ?_
                     intro v3 w3 hown3 hg3 hat3)
        go_roundg g
        case measure => omega
        case rel =>
          refine ⟨3, by omega, by go_num, Lib.hid ?_, Lib.hid (((hb.out.alloc hb.out.size _).grown hg3 (HSZ2.out) (fun k hk => (HO1.out.lt k hk).1)))⟩
          have e : 128 :: List.replicate z 0 ++ (be8 cc).take 3 = 128 :: List.replicate z 0 ++ (be8 cc).take 2 ++ [y] := by
            rw [← HY.out]; simp [be8]
          rw [e, bs_append]
          exact hown3
      · have hv : (cc : Int) / 4294967296 % 256 = ((cc / 4294967296 % 256 : Nat) : Int) := by omega
        obtain ⟨y, hy⟩ : ∃ y : Nat, cc / 4294967296 % 256 = y := ⟨_, rfl⟩
        rw [hy] at hv
        have HY := Lib.hid hy
        clear hy
        have HO1 := Lib.hid (hown.out.alloc (.cells #[.int .u8 (y : Int)] 5))
        have HSZ2 := Lib.hid (show w.heap.size ≤ (wr.alloc (.cells #[.int .u8 (y : Int)] 5)).heap.size by have := hb.out.size; simp; omega)
        go_wp2_with (at_builtin
                     refine wpList_append_any _ rfl (.tmp 24) (.tmp 29) _ rfl w.heap.size 5 i0 _ 1 1 Tryd.underlying36 hi0 hz0 hz1 hz2 rfl (by omega) (.slice Av (m + 3) cv) (m + 3) _ rfl
                       HO1.out (wr.heap.size + 1) (some ⟨wr.heap.size, 0, none⟩) 1 1 [.int .u8 (y : Int)] rfl (Reads.new wr _ _) (one_int _ _) (by unfold maxLen; omega) (by omega) HSZ2.out ?_
                     intro v3 w3 hown3 hg3 hat3)
        go_roundg g
        case measure => omega
        case rel =>
          refine ⟨4, by omega, by go_num, Lib.hid ?_, Lib.hid (((hb.out.alloc hb.out.size _).grown hg3 (HSZ2.out) (fun k hk => (HO1.out.lt k hk).1)))⟩
          have e : 128 :: List.replicate z 0 ++ (be8 cc).take 4 = 128 :: List.replicate z 0 ++ (be8 cc).take 3 ++ [y] := by
            rw [← HY.out]; simp [be8]
          rw [e, bs_append]
          exact hown3
      · have hv : (cc : Int) / 16777216 % 256 = ((cc / 16777216 % 256 : Nat) : Int) := by omega
        obtain ⟨y, hy⟩ : ∃ y : Nat, cc / 16777216 % 256 = y := ⟨_, rfl⟩
        rw [hy] at hv
        have HY := Lib.hid hy
        clear hy
        have HO1 := Lib.hid (hown.out.alloc (.cells #[.int .u8 (y : Int)] 5))
        have HSZ2 := Lib.hid (show w.heap.size ≤ (wr.alloc (.cells #[.int .u8 (y : Int)] 5)).heap.size by have := hb.out.size; simp; omega)
        go_wp2_with (at_builtin
                     refine wpList_append_any _ rfl (.tmp 24) (.tmp 29) _ rfl w.heap.size 5 i0 _ 1 1 Tryd.underlying36 hi0 hz0 hz1 hz2 rfl (by omega) (.slice Av (m + 4) cv) (m + 4) _ rfl
                       HO1.out (wr.heap.size + 1) (some ⟨wr.heap.size, 0, none⟩) 1 1 [.int .u8 (y : Int)] rfl (Reads.new wr _ _) (one_int _ _) (by unfold maxLen; omega) (by omega) HSZ2.out ?_
                     intro v3 w3 hown3 hg3 hat3)
        go_roundg g
        case measure => omega
        case rel =>
          refine ⟨5, by omega, by go_num, Lib.hid ?_, Lib.hid (((hb.out.alloc hb.out.size _).grown hg3 (HSZ2.out) (fun k hk => (HO1.out.lt k hk).1)))⟩
          have e : 128 :: List.replicate z 0 ++ (be8 cc).take 5 = 128 :: List.replicate z 0 ++ (be8 cc).take 4 ++ [y] := by
            rw [← HY.out]; simp [be8]
          rw [e, bs_append]
          exact hown3
      · have hv : (cc : Int) / 65536 % 256 = ((cc / 65536 % 256 : Nat) : Int) := by omega
        obtain ⟨y, hy⟩ : ∃ y : Nat, cc / 65536 % 256 = y := ⟨_, rfl⟩
        rw [hy] at hv
        have HY := Lib.hid hy
        clear hy
        have HO1 := Lib.hid (hown.out.alloc (.cells #[.int .u8 (y : Int)] 5))
        have HSZ2 := Lib.hid (show w.heap.size ≤ (wr.alloc (.cells #[.int .u8 (y : Int)] 5)).heap.size by have := hb.out.size; simp; omega)
        go_wp2_with (at_builtin
                     refine wpList_append_any _ rfl (.tmp 24) (.tmp 29) _ rfl w.heap.size 5 i0 _ 1 1 Tryd.underlying36 hi0 hz0 hz1 hz2 rfl (by omega) (.slice Av (m + 5) cv) (m + 5) _ rfl
                       HO1.out (wr.heap.size + 1) (some ⟨wr.heap.size, 0, none⟩) 1 1 [.int .u8 (y : Int)] rfl (Reads.new wr _ _) (one_int _ _) (by unfold maxLen; omega) (by omega) HSZ2.out ?_
                     intro v3 w3 hown3 hg3 hat3)
        go_roundg g
        case measure => omega
        case rel =>
          refine ⟨6, by omega, by go_num, Lib.hid ?_, Lib.hid (((hb.out.alloc hb.out.size _).grown hg3 (HSZ2.out) (fun k hk => (HO1.out.lt k hk).1)))⟩
          have e : 128 :: List.replicate z 0 ++ (be8 cc).take 6 = 128 :: List.replicate z 0 ++ (be8 cc).take 5 ++ [y] := by
            rw [← HY.out]; simp [be8]
          rw [e, bs_append]
          exact hown3
      · have hv : (cc : Int) / 256 % 256 = ((cc / 256 % 256 : Nat) : Int) := by omega
        obtain ⟨y, hy⟩ : ∃ y : Nat, cc / 256 % 256 = y := ⟨_, rfl⟩
        rw [hy] at hv
        have HY := Lib.hid hy
        clear hy
        have HO1 := Lib.hid (hown.out.alloc (.cells #[.int .u8 (y : Int)] 5))
        have HSZ2 := Lib.hid (show w.heap.size ≤ (wr.alloc (.cells #[.int .u8 (y : Int)] 5)).heap.size by have := hb.out.size; simp; omega)
        go_wp2_with (at_builtin
                     refine wpList_append_any _ rfl (.tmp 24) (.tmp 29) _ rfl w.heap.size 5 i0 _ 1 1 Tryd.underlying36 hi0 hz0 hz1 hz2 rfl (by omega) (.slice Av (m + 6) cv) (m + 6) _ rfl
                       HO1.out (wr.heap.size + 1) (some ⟨wr.heap.size, 0, none⟩) 1 1 [.int .u8 (y : Int)] rfl (Reads.new wr _ _) (one_int _ _) (by unfold maxLen; omega) (by omega) HSZ2.out ?_
                     intro v3 w3 hown3 hg3 hat3)
        go_roundg g
        case measure => omega
        case rel =>
          refine ⟨7, by omega, by go_num, Lib.hid ?_, Lib.hid (((hb.out.alloc hb.out.size _).grown hg3 (HSZ2.out) (fun k hk => (HO1.out.lt k hk).1)))⟩
          have e : 128 :: List.replicate z 0 ++ (be8 cc).take 7 = 128 :: List.replicate z 0 ++ (be8 cc).take 6 ++ [y] := by
            rw [← HY.out]; simp [be8]
          rw [e, bs_append]
          exact hown3
      · have hv : (cc : Int) % 256 = ((cc % 256 : Nat) : Int) := by omega
        obtain ⟨y, hy⟩ : ∃ y : Nat, cc % 256 = y := ⟨_, rfl⟩
        rw [hy] at hv
        have HY := Lib.hid hy
        clear hy
        have HO1 := Lib.hid (hown.out.alloc (.cells #[.int .u8 (y : Int)] 5))
        have HSZ2 := Lib.hid (show w.heap.size ≤ (wr.alloc (.cells #[.int .u8 (y : Int)] 5)).heap.size by have := hb.out.size; simp; omega)
        go_wp2_with (at_builtin
                     refine wpList_append_any _ rfl (.tmp 24) (.tmp 29) _ rfl w.heap.size 5 i0 _ 1 1 Tryd.underlying36 hi0 hz0 hz1 hz2 rfl (by omega) (.slice Av (m + 7) cv) (m + 7) _ rfl
                       HO1.out (wr.heap.size + 1) (some ⟨wr.heap.size, 0, none⟩) 1 1 [.int .u8 (y : Int)] rfl (Reads.new wr _ _) (one_int _ _) (by unfold maxLen; omega) (by omega) HSZ2.out ?_
                     intro v3 w3 hown3 hg3 hat3)
        go_roundg g
        case measure => omega
        case rel =>
          refine ⟨8, by omega, by go_num, Lib.hid ?_, Lib.hid (((hb.out.alloc hb.out.size _).grown hg3 (HSZ2.out) (fun k hk => (HO1.out.lt k hk).1)))⟩
          have e : 128 :: List.replicate z 0 ++ (be8 cc).take 8 = 128 :: List.replicate z 0 ++ (be8 cc).take 7 ++ [y] := by
            rw [← HY.out]; simp [be8]
          rw [e, bs_append]
          exact hown3
end Go.Proofs.YtfpbijnlmlaloaaDoor
