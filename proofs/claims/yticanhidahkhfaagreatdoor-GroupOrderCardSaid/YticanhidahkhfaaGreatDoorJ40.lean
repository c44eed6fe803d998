import Derived.Test.YticanhidahkhfaaGreatDoorJ1
import Derived.Test.YticanhidahkhfaaGreatDoorJ3
import Derived.Deep.LoopGhost
import Derived.Test.YticanhidahkhfaaGreatDoorJ10
import Derived.Test.YticanhidahkhfaaGreatDoorJ5
namespace Go.Proofs.YticanhidahkhfaaGreatDoor
open Go.RowKit
set_option linter.unusedVariables false
set_option linter.unusedSimpArgs false
set_option maxRecDepth 100000
theorem own_of_blkS {w : World} {base g cap n : Nat} {t : TypeId} {cur : Array Value} {xs : List Value} (h : Blk w g t cur) (hb : base ≤ g) (hn : n ≤ cap) (hc : cap ≤ maxLen) (hs : cur.size = cap) (hx : cur.toList.take n = xs) : w.ownsRow base t 1 (.slice (some ⟨g, 0, none⟩) n cap) n xs := by
  refine ⟨by rw [← hx, List.length_take]; simp; omega, .inr ⟨g, cap, cur, rfl, hb, h, hn, hc, by omega, by simpa using hx⟩⟩
theorem run_make_cap (n c : Nat) (hn : n ≤ c) (hc : c ≤ 281474976710656) (w : World) :
    (Instr.makeSlice 48 (.int .u64 (n : Int)) (.int .i64 (c : Int))).run Tryz.prog w = .ok (.slice (some ⟨w.heap.size, 0, none⟩) n c) (w.alloc (.cells (madeCells #[.int .u8 0] c) 5)) := by
  obtain ⟨i, hi, hz0, hz1, hz2⟩ := info_parts info_u8
  have hr := run_make (P := Tryz.prog) w 48 5 i _ Tryz.underlying48 hi hz0 .u64 .i64 n c (by omega) (by omega) (by rw [hz2]; omega) (by omega)
  rw [hz1] at hr
  simpa [Value.cells] using hr
theorem fill_cells (z : Nat) (hz : z < 64) : (((madeCells #[.int .u8 0] 73).setIfInBounds 0 (.int .u8 128)).toList.take (1 + z)) = bs (128 :: List.replicate z 0) := by
  rw [Array.toList_setIfInBounds, toList_madeCells_one, List.take_set, List.take_replicate, show min (1 + z) 73 = z + 1 by omega, List.replicate_succ]
  simp [bs]
set_option maxHeartbeats 1000000 in
theorem filling_any (n : Nat) (w : World) (hn : n ≤ 1152921504606846976) :
    Calls Tryz.prog 173 #[.int .u64 (n : Int)] w (New w (bs (tailF n)) (9 + zsS n)) := by
  obtain ⟨i0, hi0, hz0, hz1, hz2⟩ := info_parts info_u8
  obtain ⟨z, hz⟩ : ∃ z, zsS n = z := ⟨_, rfl⟩
  obtain ⟨ov, hov⟩ : ∃ ov : Nat, (n + 9) % 64 = ov := ⟨_, rfl⟩
  have hov1 : ((n : Int) + 1 + 8) % 64 = (ov : Int) := by omega
  have hov2 : ((n : Int) + 9) % 64 = (ov : Int) := by omega
  have hov3 : ov < 64 := by omega
  have hz64 : z < 64 := by rw [← hz]; unfold zsS; omega
  have hzi : (64 - (ov : Int)) % 64 = (z : Int) := by rw [← hz]; unfold zsS; omega
  obtain ⟨m, hm⟩ : ∃ m : Nat, 1 + z = m := ⟨_, rfl⟩
  have hmi : 1 + (z : Int) = (m : Int) := by omega
  have hm0 : (0 : Int) < (m : Int) := by omega
  have hmk := run_make_cap m 73 (by omega) (by omega) w
  rw [show ((73 : Nat) : Int) = 73 from rfl] at hmk
  have hB := Blk.new w 5 (madeCells #[.int .u8 0] 73)
  have hc := hB.cell 0
  rw [show (madeCells #[.int .u8 0] 73)[0]? = some (.int .u8 0) by rw [← Array.getElem?_toList, toList_madeCells_one]; rfl] at hc
  have hfz := hB.frozen 0
  have hown : ((w.alloc (.cells (madeCells #[.int .u8 0] 73) 5)).setCell ⟨w.heap.size, 0, none⟩ (.int .u8 128)).ownsRow w.heap.size 5 1 (.slice (some ⟨w.heap.size, 0, none⟩) m 73) m (bs (128 :: List.replicate z 0)) :=
    own_of_blkS (hB.set_ 0 (.int .u8 128)) (Nat.le_refl _) (by omega) (by unfold maxLen; omega) (by rw [Array.size_setIfInBounds, size_madeCells]) (by rw [← hm]; exact fill_cells z hz64)
  have hb : Below w.heap.size w ((w.alloc (.cells (madeCells #[.int .u8 0] 73) 5)).setCell ⟨w.heap.size, 0, none⟩ (.int .u8 128)) := ((Below.refl _ _).alloc (Nat.le_refl _) _).setCell (Nat.le_refl _) _
  obtain ⟨w1, hw1⟩ : ∃ w1 : World, w1 = w.alloc (.cells (madeCells #[.int .u8 0] 73) 5) := ⟨_, rfl⟩
  rw [← hw1] at hmk hc hfz hown hb
  have HO := Lib.hid hown; have HB := Lib.hid hb; have HZ := Lib.hid hz; have HM := Lib.hid hm
  clear hown hb hz hm hov hw1 hB
  obtain ⟨cc, hcc⟩ : ∃ c : Nat, n * 8 = c := ⟨_, rfl⟩
  have hcci : (n : Int) * 8 = (cc : Int) := by omega
  have hccl : cc < 18446744073709551616 := by omega
  have HC := Lib.hid hcc; clear hcc
  go_enter Tryz.func173, Tryz.ntmps173
  go_wp2_with fail
  obtain ⟨w2, hw2⟩ : ∃ w2 : World, w2 = w1.setCell ⟨w.heap.size, 0, none⟩ (.int .u8 128) := ⟨_, rfl⟩
  rw [← hw2] at HO HB ⊢
  clear hw2 hmk hc hfz hov1 hov2 hov3 hzi hmi hm0 hcci
  generalize (64 - (ov : Int)) % 64 = q13
  generalize ((n : Int) + 1 + 8) % 64 = q10
  generalize 64 - (ov : Int) = q12
  go_loopg [4, 6] 8 (fun g s4 s6 wr => ∃ j : Nat, j + g = 8 ∧ s6 = .int .i64 (56 - 8 * (j : Int)) ∧ Hid (wr.ownsRow w.heap.size 5 1 s4 (m + j) (bs (128 :: List.replicate z 0 ++ (be8 cc).take j))) ∧ Hid (Below w.heap.size w wr))
  case atStart => exact ⟨0, by omega, rfl, Lib.hid (by simpa using HO.out), HB⟩
  case round =>
    clear HO HB
    obtain ⟨j, hjg, rfl, hown, hb⟩ := hrel
    obtain ⟨Av, cv, rfl, _⟩ := own_slice hown.out
    have hm73 : m + 8 ≤ 72 := by have := HM.out; omega
    cases gk with
    | zero =>
      obtain rfl : j = 8 := by omega
      clear hjg
      go_wp2_with fail
      go_ret
      have ho := hown.out
      rw [List.take_of_length_le (show (be8 cc).length ≤ 8 from Nat.le_refl _), ← HC.out, ← HZ.out, show m + 8 = 9 + zsS n by rw [HZ.out, ← HM.out]; omega] at ho
      exact ⟨_, by first | rfl | exact ret_of (by rw [show m + 8 = 9 + zsS n by rw [HZ.out, ← HM.out]; omega]), by first | exact ho | (rw [show m + 8 = 9 + zsS n by rw [HZ.out, ← HM.out]; omega]; exact ho), hb.out⟩
    | succ g =>
      have hj : j = 0 ∨ j = 1 ∨ j = 2 ∨ j = 3 ∨ j = 4 ∨ j = 5 ∨ j = 6 ∨ j = 7 := by omega
      rcases hj with rfl | rfl | rfl | rfl | rfl | rfl | rfl | rfl
      · have hv : (cc : Int) / 72057594037927936 = ((cc / 72057594037927936 % 256 : Nat) : Int) := by omega
        obtain ⟨y, hy⟩ : ∃ y : Nat, cc / 72057594037927936 % 256 = y := ⟨_, rfl⟩
        rw [hy] at hv
        have HY := Lib.hid hy
        clear hy
        have HO1 := Lib.hid (hown.out.alloc (.cells #[.int .u8 (y : Int)] 5))
        have HSZ2 := Lib.hid (show w.heap.size ≤ (wr.alloc (.cells #[.int .u8 (y : Int)] 5)).heap.size by have := hb.out.size; simp; omega)
        go_wp2_with (at_builtin
                     refine wpList_append_any _ rfl (.tmp 24) (.tmp 29) _ rfl w.heap.size 5 i0 _ 1 1 Tryz.underlying48 hi0 hz0 hz1 hz2 rfl (by omega) (.slice Av m cv) m _ rfl
                       HO1.out (wr.heap.size + 1) (some ⟨wr.heap.size, 0, none⟩) 1 1 [.int .u8 (y : Int)] rfl (Reads.new wr _ _) (one_int _ _) (by unfold maxLen; omega) (by omega) HSZ2.out ?_
                     intro v3 w3 hown3 hg3 hat3)
        go_roundg g
        case measure => omega
        case rel =>
          refine ⟨1, by omega, by go_num, Lib.hid ?_, Lib.hid (((hb.out.alloc hb.out.size _).grown hg3 (HSZ2.out) (fun k hk => (HO1.out.lt k hk).1)))⟩
          have e : 128 :: List.replicate z 0 ++ (be8 cc).take 1 = 128 :: List.replicate z 0 ++ (be8 cc).take 0 ++ [y] := by
            rw [← HY.out]; simp [be8]
          rw [e, bs_append]
          exact hown3
      · have hv : (cc : Int) / 281474976710656 % 256 = ((cc / 281474976710656 % 256 : Nat) : Int) := by omega
        obtain ⟨y, hy⟩ : ∃ y : Nat, cc / 281474976710656 % 256 = y := ⟨_, rfl⟩
        rw [hy] at hv
        have HY := Lib.hid hy
        clear hy
        have HO1 := Lib.hid (hown.out.alloc (.cells #[.int .u8 (y : Int)] 5))
        have HSZ2 := Lib.hid (show w.heap.size ≤ (wr.alloc (.cells #[.int .u8 (y : Int)] 5)).heap.size by have := hb.out.size; simp; omega)
        go_wp2_with (at_builtin
                     refine wpList_append_any _ rfl (.tmp 24) (.tmp 29) _ rfl w.heap.size 5 i0 _ 1 1 Tryz.underlying48 hi0 hz0 hz1 hz2 rfl (by omega) (.slice Av (m + 1) cv) (m + 1) _ rfl
                       HO1.out (wr.heap.size + 1) (some ⟨wr.heap.size, 0, none⟩) 1 1 [.int .u8 (y : Int)] rfl (Reads.new wr _ _) (one_int _ _) (by unfold maxLen; omega) (by omega) HSZ2.out ?_
                     intro v3 w3 hown3 hg3 hat3)
        go_roundg g
        case measure => omega
        case rel =>
          refine ⟨2, by omega, by go_num, Lib.hid ?_, Lib.hid (((hb.out.alloc hb.out.size _).grown hg3 (HSZ2.out) (fun k hk => (HO1.out.lt k hk).1)))⟩
          have e : 128 :: List.replicate z 0 ++ (be8 cc).take 2 = 128 :: List.replicate z 0 ++ (be8 cc).take 1 ++ [y] := by
            rw [← HY.out]; simp [be8]
          rw [e, bs_append]
          exact hown3
      · have hv : (cc : Int) / 1099511627776 % 256 = ((cc / 1099511627776 % 256 : Nat) : Int) := by omega
        obtain ⟨y, hy⟩ : ∃ y : Nat, cc / 1099511627776 % 256 = y := ⟨_, rfl⟩
        rw [hy] at hv
        have HY := Lib.hid hy
        clear hy
        have HO1 := Lib.hid (hown.out.alloc (.cells #[.int .u8 (y : Int)] 5))
        have HSZ2 := Lib.hid (show w.heap.size ≤ (wr.alloc (.cells #[.int .u8 (y : Int)] 5)).heap.size by have := hb.out.size; simp; omega)
        go_wp2_with (at_builtin
                     refine wpList_append_any _ rfl (.tmp 24) (.tmp 29) _ rfl w.heap.size 5 i0 _ 1 1 Tryz.underlying48 hi0 hz0 hz1 hz2 rfl (by omega) (.slice Av (m + 2) cv) (m + 2) _ rfl
                       HO1.out (wr.heap.size + 1) (some ⟨wr.heap.size, 0, none⟩) 1 1 [.int .u8 (y : Int)] rfl (Reads.new wr _ _) (one_int _ _) (by unfold maxLen; omega) (by omega) HSZ2.out ?_
                     intro v3 w3 hown3 hg3 hat3)
        go_roundg g
        case measure => omega
        case rel =>
          refine ⟨3, by omega, by go_num, Lib.hid ?_, Lib.hid (((hb.out.alloc hb.out.size _).grown hg3 (HSZ2.out) (fun k hk => (HO1.out.lt k hk).1)))⟩
          have e : 128 :: List.replicate z 0 ++ (be8 cc).take 3 = 128 :: List.replicate z 0 ++ (be8 cc).take 2 ++ [y] := by
            rw [← HY.out]; simp [be8]
          rw [e, bs_append]
          exact hown3
      · have hv : (cc : Int) / 4294967296 % 256 = ((cc / 4294967296 % 256 : Nat) : Int) := by omega
        obtain ⟨y, hy⟩ : ∃ y : Nat, cc / 4294967296 % 256 = y := ⟨_, rfl⟩
        rw [hy] at hv
        have HY := Lib.hid hy
        clear hy
        have HO1 := Lib.hid (hown.out.alloc (.cells #[.int .u8 (y : Int)] 5))
        have HSZ2 := Lib.hid (show w.heap.size ≤ (wr.alloc (.cells #[.int .u8 (y : Int)] 5)).heap.size by have := hb.out.size; simp; omega)
        go_wp2_with (at_builtin
                     refine wpList_append_any _ rfl (.tmp 24) (.tmp 29) _ rfl w.heap.size 5 i0 _ 1 1 Tryz.underlying48 hi0 hz0 hz1 hz2 rfl (by omega) (.slice Av (m + 3) cv) (m + 3) _ rfl
                       HO1.out (wr.heap.size + 1) (some ⟨wr.heap.size, 0, none⟩) 1 1 [.int .u8 (y : Int)] rfl (Reads.new wr _ _) (one_int _ _) (by unfold maxLen; omega) (by omega) HSZ2.out ?_
                     intro v3 w3 hown3 hg3 hat3)
        go_roundg g
        case measure => omega
        case rel =>
          refine ⟨4, by omega, by go_num, Lib.hid ?_, Lib.hid (((hb.out.alloc hb.out.size _).grown hg3 (HSZ2.out) (fun k hk => (HO1.out.lt k hk).1)))⟩
          have e : 128 :: List.replicate z 0 ++ (be8 cc).take 4 = 128 :: List.replicate z 0 ++ (be8 cc).take 3 ++ [y] := by
            rw [← HY.out]; simp [be8]
          rw [e, bs_append]
          exact hown3
      · have hv : (cc : Int) / 16777216 % 256 = ((cc / 16777216 % 256 : Nat) : Int) := by omega
        obtain ⟨y, hy⟩ : ∃ y : Nat, cc / 16777216 % 256 = y := ⟨_, rfl⟩
        rw [hy] at hv
        have HY := Lib.hid hy
        clear hy
        have HO1 := Lib.hid (hown.out.alloc (.cells #[.int .u8 (y : Int)] 5))
        have HSZ2 := Lib.hid (show w.heap.size ≤ (wr.alloc (.cells #[.int .u8 (y : Int)] 5)).heap.size by have := hb.out.size; simp; omega)
        go_wp2_with (at_builtin
                     refine wpList_append_any _ rfl (.tmp 24) (.tmp 29) _ rfl w.heap.size 5 i0 _ 1 1 Tryz.underlying48 hi0 hz0 hz1 hz2 rfl (by omega) (.slice Av (m + 4) cv) (m + 4) _ rfl
                       HO1.out (wr.heap.size + 1) (some ⟨wr.heap.size, 0, none⟩) 1 1 [.int .u8 (y : Int)] rfl (Reads.new wr _ _) (one_int _ _) (by unfold maxLen; omega) (by omega) HSZ2.out ?_
                     intro v3 w3 hown3 hg3 hat3)
        go_roundg g
        case measure => omega
        case rel =>
          refine ⟨5, by omega, by go_num, Lib.hid ?_, Lib.hid (((hb.out.alloc hb.out.size _).grown hg3 (HSZ2.out) (fun k hk => (HO1.out.lt k hk).1)))⟩
          have e : 128 :: List.replicate z 0 ++ (be8 cc).take 5 = 128 :: List.replicate z 0 ++ (be8 cc).take 4 ++ [y] := by
            rw [← HY.out]; simp [be8]
          rw [e, bs_append]
          exact hown3
      · have hv : (cc : Int) / 65536 % 256 = ((cc / 65536 % 256 : Nat) : Int) := by omega
        obtain ⟨y, hy⟩ : ∃ y : Nat, cc / 65536 % 256 = y := ⟨_, rfl⟩
        rw [hy] at hv
        have HY := Lib.hid hy
        clear hy
        have HO1 := Lib.hid (hown.out.alloc (.cells #[.int .u8 (y : Int)] 5))
        have HSZ2 := Lib.hid (show w.heap.size ≤ (wr.alloc (.cells #[.int .u8 (y : Int)] 5)).heap.size by have := hb.out.size; simp; omega)
        go_wp2_with (at_builtin
                     refine wpList_append_any _ rfl (.tmp 24) (.tmp 29) _ rfl w.heap.size 5 i0 _ 1 1 Tryz.underlying48 hi0 hz0 hz1 hz2 rfl (by omega) (.slice Av (m + 5) cv) (m + 5) _ rfl
                       HO1.out (wr.heap.size + 1) (some ⟨wr.heap.size, 0, none⟩) 1 1 [.int .u8 (y : Int)] rfl (Reads.new wr _ _) (one_int _ _) (by unfold maxLen; omega) (by omega) HSZ2.out ?_
                     intro v3 w3 hown3 hg3 hat3)
        go_roundg g
        case measure => omega
        case rel =>
          refine ⟨6, by omega, by go_num, Lib.hid ?_, Lib.hid (((hb.out.alloc hb.out.size _).grown hg3 (HSZ2.out) (fun k hk => (HO1.out.lt k hk).1)))⟩
          have e : 128 :: List.replicate z 0 ++ (be8 cc).take 6 = 128 :: List.replicate z 0 ++ (be8 cc).take 5 ++ [y] := by
            rw [← HY.out]; simp [be8]
          rw [e, bs_append]
          exact hown3
      · have hv : (cc : Int) / 256 % 256 = ((cc / 256 % 256 : Nat) : Int) := by omega
        obtain ⟨y, hy⟩ : ∃ y : Nat, cc / 256 % 256 = y := ⟨_, rfl⟩
        rw [hy] at hv
        have HY := Lib.hid hy
        clear hy
        have HO1 := Lib.hid (hown.out.alloc (.cells #[.int .u8 (y : Int)] 5))
        have HSZ2 := Lib.hid (show w.heap.size ≤ (wr.alloc (.cells #[.int .u8 (y : Int)] 5)).heap.size by have := hb.out.size; simp; omega)
        go_wp2_with (at_builtin
                     refine wpList_append_any _ rfl (.tmp 24) (.tmp 29) _ rfl w.heap.size 5 i0 _ 1 1 Tryz.underlying48 hi0 hz0 hz1 hz2 rfl (by omega) (.slice Av (m + 6) cv) (m + 6) _ rfl
                       HO1.out (wr.heap.size + 1) (some ⟨wr.heap.size, 0, none⟩) 1 1 [.int .u8 (y : Int)] rfl (Reads.new wr _ _) (one_int _ _) (by unfold maxLen; omega) (by omega) HSZ2.out ?_
                     intro v3 w3 hown3 hg3 hat3)
        go_roundg g
        case measure => omega
        case rel =>
          refine ⟨7, by omega, by go_num, Lib.hid ?_, Lib.hid (((hb.out.alloc hb.out.size _).grown hg3 (HSZ2.out) (fun k hk => (HO1.out.lt k hk).1)))⟩
          have e : 128 :: List.replicate z 0 ++ (be8 cc).take 7 = 128 :: List.replicate z 0 ++ (be8 cc).take 6 ++ [y] := by
            rw [← HY.out]; simp [be8]
          rw [e, bs_append]
          exact hown3
      · have hv : (cc : Int) % 256 = ((cc % 256 : Nat) : Int) := by omega
        obtain ⟨y, hy⟩ : ∃ y : Nat, cc % 256 = y := ⟨_, rfl⟩
        rw [hy] at hv
        have HY := Lib.hid hy
        clear hy
        have HO1 := Lib.hid (hown.out.alloc (.cells #[.int .u8 (y : Int)] 5))
        have HSZ2 := Lib.hid (show w.heap.size ≤ (wr.alloc (.cells #[.int .u8 (y : Int)] 5)).heap.size by have := hb.out.size; simp; omega)
        go_wp2_with (at_builtin
                     refine wpList_append_any _ rfl (.tmp 24) (.tmp 29) _ rfl w.heap.size 5 i0 _ 1 1 Tryz.underlying48 hi0 hz0 hz1 hz2 rfl (by omega) (.slice Av (m + 7) cv) (m + 7) _ rfl
                       HO1.out (wr.heap.size + 1) (some ⟨wr.heap.size, 0, none⟩) 1 1 [.int .u8 (y : Int)] rfl (Reads.new wr _ _) (one_int _ _) (by unfold maxLen; omega) (by omega) HSZ2.out ?_
                     intro v3 w3 hown3 hg3 hat3)
        go_roundg g
        case measure => omega
        case rel =>
          refine ⟨8, by omega, by go_num, Lib.hid ?_, Lib.hid (((hb.out.alloc hb.out.size _).grown hg3 (HSZ2.out) (fun k hk => (HO1.out.lt k hk).1)))⟩
          have e : 128 :: List.replicate z 0 ++ (be8 cc).take 8 = 128 :: List.replicate z 0 ++ (be8 cc).take 7 ++ [y] := by
            rw [← HY.out]; simp [be8]
          rw [e, bs_append]
          exact hown3
end Go.Proofs.YticanhidahkhfaaGreatDoor
namespace Go.Proofs.YticanhidahkhfaaGreatDoor
open Go.RowKit
set_option linter.unusedVariables false
set_option linter.unusedSimpArgs false
set_option maxRecDepth 100000
structure Wk (w : World) (B g : Nat) (o : Value) (L : List Nat) (N : Nat) : Prop where
  blk : Blk w g 229 (workL (st8 L).list o N)
  own : w.ownsRow B 5 1 o (L.length % 64) (bs (opn L))
  far : o.ownBlock ≠ some g
  base : B ≤ g
  byte : ∀ b ∈ L, b < 256
theorem Wk.ok {w : World} {B g : Nat} {o : Value} {L : List Nat} {N : Nat} (_h : Wk w B g o L N) : (st8 L).ok := blks_ok s0_ok _ _
theorem Wk.lt {w : World} {B g : Nat} {o : Value} {L : List Nat} {N : Nat} (h : Wk w B g o L N) : g < w.heap.size := h.blk.lt
theorem Wk.below {w w' : World} {B g : Nat} {o : Value} {L : List Nat} {N : Nat} (h : Wk w B g o L N) (hb : Below w.heap.size w w') : Wk w' B g o L N :=
  ⟨h.blk.below hb h.lt, own_below h.own hb, h.far, h.base, h.byte⟩
def Pt (w : World) (g : Nat) (o : Value) (A : Option Addr) (n : Nat) (l : List Nat) : Prop :=
  Reads w w.heap.size 1 A n (bs l) ∧ (0 < n → ∀ ad, A = some ad → ad.block ≠ g ∧ some ad.block ≠ o.ownBlock)
theorem Pt.len {w : World} {g : Nat} {o : Value} {A : Option Addr} {n : Nat} {l : List Nat} (h : Pt w g o A n l) : l.length = n := by
  have := h.1.1; rw [bs_length] at this; omega
theorem Pt.grown {w w' : World} {g : Nat} {o : Value} {A : Option Addr} {n : Nat} {l : List Nat} (h : Pt w g o A n l) (hg : w.grownBy w' (some g)) : Pt w' g o A n l := by
  refine ⟨⟨h.1.1, fun hn => ?_⟩, h.2⟩
  obtain ⟨ad, had, hlt, hc⟩ := h.1.2 hn
  exact ⟨ad, had, Nat.lt_of_lt_of_le hlt hg.size, fun j u hu => hg.cell (hc j u hu) (by rw [block_of_add]; simpa using (h.2 hn ad had).1)⟩
theorem Pt.grownOwn {w w' : World} {g : Nat} {o o' : Value} {A : Option Addr} {n : Nat} {l : List Nat} (h : Pt w g o A n l) (hg : w.grownBy w' o.ownBlock) (ho : o'.ownBlock = o.ownBlock ∨ o'.ownBlock = some w.heap.size) : Pt w' g o' A n l := by
  refine ⟨⟨h.1.1, fun hn => ?_⟩, fun hn ad had => ⟨(h.2 hn ad had).1, ?_⟩⟩
  · obtain ⟨ad, had, hlt, hc⟩ := h.1.2 hn
    exact ⟨ad, had, Nat.lt_of_lt_of_le hlt hg.size, fun j u hu => hg.cell (hc j u hu) (by rw [block_of_add]; exact (h.2 hn ad had).2)⟩
  · rcases ho with ho | ho
    · rw [ho]; exact (h.2 hn ad had).2
    · obtain ⟨ad', had', hlt, _⟩ := h.1.2 hn
      rw [had] at had'
      injection had' with had'
      subst had'
      rw [ho]
      intro e
      injection e with e
      omega
theorem Pt.cut {w : World} {g : Nat} {o : Value} {A : Option Addr} {n : Nat} {l : List Nat} (h : Pt w g o A n l) {k c : Nat} (hk : k ≤ n) (hc : n ≤ c) : Pt w g o (if c = k then A else A.map (·.add k)) (n - k) (l.drop k) := by
  refine ⟨by have := h.1.cut (k := k) hk hc; simpa [bs_drop] using this, fun hn ad had => ?_⟩
  rw [if_neg (by omega)] at had
  obtain ⟨ad', had', _, _⟩ := h.1.2 (by omega)
  rw [had'] at had
  simp only [Option.map_some, Option.some.injEq] at had
  subst had
  rw [block_of_add]
  exact h.2 (by omega) ad' had'
theorem Pt.fore {w : World} {g : Nat} {o : Value} {A : Option Addr} {n : Nat} {l : List Nat} (h : Pt w g o A n l) {k : Nat} (hk : k ≤ n) : Pt w g o A k (l.take k) :=
  ⟨by have := h.1.fore (k := k) hk; simpa [bs_take] using this, fun hn ad had => h.2 (by omega) ad had⟩
theorem Pt.of_below {w : World} {B g : Nat} {o : Value} {L : List Nat} {N : Nat} (hk : Wk w B g o L N) {A : Option Addr} {n : Nat} {l : List Nat} (h : Reads w B 1 A n (bs l)) : Pt w g o A n l := by
  refine ⟨h.more (Nat.le_trans hk.base (Nat.le_of_lt hk.lt)), fun hn ad had => ?_⟩
  obtain ⟨ad', had', hlt, _⟩ := h.2 hn
  rw [had] at had'
  injection had' with had'
  subst had'
  refine ⟨fun e => ?_, fun e => ?_⟩
  · have := hk.base; omega
  · have := (hk.own.lt _ e.symm).1; omega
theorem Pt.of_new {w w' : World} {B g : Nat} {o : Value} {L : List Nat} {N : Nat} (hk : Wk w B g o L N) {t : TypeId} {v : Value} {n : Nat} {l : List Nat} (h : w'.ownsRow w.heap.size t 1 v n (bs l)) {A : Option Addr} {c : Nat} (hv : v = .slice A n c) (hs : w.heap.size ≤ w'.heap.size) : Pt w' g o A n l := by
  subst hv
  refine ⟨Reads.of_own h, fun hn ad had => ?_⟩
  subst had
  have h1 := (h.lt ad.block rfl).1
  exact ⟨fun e => by have := hk.lt; omega, fun e => by have := (hk.own.lt _ e.symm).2; omega⟩
def BegunTo (w : World) (e : Ending) (w' : World) : Prop := ∃ g o, e = .returned (.pointer (some ⟨g, 0, none⟩)) ∧ Wk w' w.heap.size g o [] 0 ∧ Below w.heap.size w w'
set_option maxHeartbeats 1000000 in
theorem begun_any (w : World) : Calls Tryz.prog 97 #[] w (BegunTo w) := by
  have hmk : ∀ W : World, (Instr.makeSlice 48 (.int .i64 0) (.int .i64 64)).run Tryz.prog W = .ok (.slice (some ⟨W.heap.size, 0, none⟩) 0 64) (W.alloc (.cells (madeCells #[.int .u8 0] 64) 5)) := fun W => run_make_u8 64 (by omega) W
  go_enter Tryz.func97, Tryz.ntmps97
  go_wp2_with fail
  go_ret
  refine ⟨w.heap.size + 1, .slice (some ⟨w.heap.size, 0, none⟩) 0 64, rfl, ⟨?_, ?_, ?_, ?_, ?_⟩, ((Below.refl _ _).alloc (Nat.le_refl _) _).alloc (by simp) _⟩
  · have h := Blk.new (w.alloc (.cells (madeCells #[.int .u8 0] 64) 5)) 229 (workL s0.list (.slice (some ⟨w.heap.size, 0, none⟩) 0 64) 0)
    have e : workL s0.list (.slice (some ⟨w.heap.size, 0, none⟩) 0 64) 0 = #[.int .u32 1779033703, .int .u32 3144134277, .int .u32 1013904242, .int .u32 2773480762, .int .u32 1359893119, .int .u32 2600822924, .int .u32 528734635, .int .u32 1541459225, .slice (some ⟨w.heap.size, 0, none⟩) 0 64, .int .u64 0] := by
      unfold workL
      rfl
    rw [World.size_alloc] at h
    rw [show st8 [] = s0 from rfl]
    rw [e] at h ⊢
    exact h
  · have h : (w.alloc (.cells (madeCells #[.int .u8 0] 64) 5)).ownsRow w.heap.size 5 1 (.slice (some ⟨w.heap.size, 0, none⟩) 0 64) 0 [] :=
      World.ownsRow_made w _ _ (Nat.le_refl _) (by unfold maxLen; omega) (by rw [size_madeCells])
    exact h.alloc _
  · simp [Value.ownBlock]
  · omega
  · simp
end Go.Proofs.YticanhidahkhfaaGreatDoor
