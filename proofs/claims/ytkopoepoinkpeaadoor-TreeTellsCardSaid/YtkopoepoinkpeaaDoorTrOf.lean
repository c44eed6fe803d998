/- Contracts of the document's ofLeaf and OfNode: what a leaf's and a node's digest is of, in new memory. No condition. -/
import Derived.Test.YtkopoepoinkpeaaDoorTrRefLeaf
namespace Go.Proofs.YtkopoepoinkpeaaDoor
open Go.RowKit
set_option linter.unusedVariables false
set_option linter.unusedSimpArgs false
set_option maxRecDepth 100000

set_option maxHeartbeats 1000000 in
theorem ofLeaf_any (A : Option Addr) (n c : Nat) (l : List Nat) (w : World) (hr : Reads w w.heap.size 1 A n (bs l)) (hn : n ≤ 1000000) :
    Calls Tryd.prog 37 #[.slice A n c] w (New w (bs (0 :: l)) (n + 1)) := by
  obtain ⟨i0, hi0, hz0, hz1, hz2⟩ := info_parts info_u8
  have hown := own_of_blkS (base := w.heap.size) (n := 1) (cap := 1) (Blk.new w 5 #[.int .u8 0]) (Nat.le_refl _) (Nat.le_refl _) (by unfold maxLen; omega) rfl (xs := bs [0]) rfl
  have hb1 := (Below.refl w.heap.size w).alloc (Nat.le_refl _) (.cells #[.int .u8 0] 5)
  have HOWN := Lib.hid hown; have HB := Lib.hid hb1; have HR := Lib.hid ((hr.below hb1).more hb1.size)
  clear hown hb1 hr
  go_enter Tryd.func37, Tryd.ntmps37
  go_wp2_with (at_builtin
               refine wpList_append_any _ rfl (.tmp 3) (.tmp 4) _ rfl w.heap.size 5 i0 _ 1 1 Tryd.underlying37 hi0 hz0 hz1 hz2 rfl (by omega) (.slice (some ⟨w.heap.size, 0, none⟩) 1 1) 1 _ rfl
                 HOWN.out _ A n c (bs l) rfl HR.out (bs_one _) (by unfold maxLen; omega) (by omega) (by simp) ?_
               intro v3 w3 hown3 hg3 hat3)
  go_ret
  rw [Nat.add_comm n 1]
  exact ⟨_, rfl, hown3, HB.out.grown hg3 (by simp) (fun k hk => (HOWN.out.lt k hk).1)⟩
set_option maxHeartbeats 2000000 in
theorem ofNode_any (a b : List Nat) (w : World) (ha : a.length = 32) (hb : b.length = 32) :
    Calls Tryd.prog 38 #[.agg (bs a).toArray, .agg (bs b).toArray] w (New w (bs (1 :: (a ++ b))) 65) := by
  obtain ⟨i0, hi0, hz0, hz1, hz2⟩ := info_parts info_u8
  have b1 := (Below.refl w.heap.size w).alloc (Nat.le_refl _) (.cells (bs a).toArray 31)
  have b2 := b1.alloc b1.size (.cells (bs b).toArray 31)
  have k1 := (Blk.new w 31 (bs a).toArray).alloc (.cells (bs b).toArray 31)
  have k2 := Blk.new (w.alloc (.cells (bs a).toArray 31)) 31 (bs b).toArray
  simp only [World.size_alloc] at k2
  obtain ⟨W0, hW0⟩ : ∃ W0, (w.alloc (.cells (bs a).toArray 31)).alloc (.cells (bs b).toArray 31) = W0 := ⟨_, rfl⟩
  have hs0 : W0.heap.size = w.heap.size + 1 + 1 := by rw [← hW0]; simp
  rw [hW0] at b2 k1 k2
  obtain ⟨VA, hVA⟩ : ∃ V, (bs a).toArray = V := ⟨_, rfl⟩
  obtain ⟨VB, hVB⟩ : ∃ V, (bs b).toArray = V := ⟨_, rfl⟩
  rw [hVA] at hW0 k1
  rw [hVB] at hW0 k2
  rw [hVA, hVB]
  have hga : ∀ i y : Nat, a[i]? = some y → VA[i]? = some (Value.int .u8 (y : Int)) := fun i y hy => by rw [← hVA, List.getElem?_toArray]; unfold bs; rw [List.getElem?_map, hy]; rfl
  have hgb : ∀ i y : Nat, b[i]? = some y → VB[i]? = some (Value.int .u8 (y : Int)) := fun i y hy => by rw [← hVB, List.getElem?_toArray]; unfold bs; rw [List.getElem?_map, hy]; rfl
  have hown := own_of_blkS (base := W0.heap.size) (n := 1) (cap := 1) (Blk.new W0 5 #[.int .u8 1]) (Nat.le_refl _) (Nat.le_refl _) (by unfold maxLen; omega) rfl (xs := bs [1]) rfl
  have b3 := (Below.refl W0.heap.size W0).alloc (Nat.le_refl _) (.cells #[.int .u8 1] 5)
  obtain ⟨W1, hW1⟩ : ∃ W1, W0.alloc (.cells #[.int .u8 1] 5) = W1 := ⟨_, rfl⟩
  rw [hW1] at hown b3
  have HB3 := Lib.hid b2; have HK1 := Lib.hid k1; have HK2 := Lib.hid k2; have HS0 := Lib.hid hs0; have HGA := Lib.hid hga; have HGB := Lib.hid hgb; have HA := Lib.hid ha; have HB := Lib.hid hb; have HOWN := Lib.hid hown; have HBW := Lib.hid b3
  clear b1 b2 b3 k1 k2 hs0 hga hgb ha hb hVA hVB hown
  go_enter Tryd.func38, Tryd.ntmps38
  go_wp2_with fail
  clear hW0 hW1
  go_loopg [5, 6] 32 (fun gk s5 s6 wr => ∃ i : Nat, i + gk = 32 ∧ s6 = .int .i64 (i : Int) ∧ Hid (wr.ownsRow W0.heap.size 5 1 s5 (1 + i) (bs (1 :: a.take i))) ∧ Hid (Below W0.heap.size W0 wr))
  case atStart => exact ⟨0, by omega, rfl, HOWN, HBW⟩
  case round =>
    obtain ⟨i, hig, rfl, hown, hb⟩ := hrel
    obtain ⟨A5, c5, e5, hc5, _, _⟩ := own_slice hown.out
    subst e5
    cases gk with
    | zero =>
      obtain rfl : i = 32 := by omega
      clear hig
      have HOWN2 : Hid (wr.ownsRow W0.heap.size 5 1 (.slice A5 (1 + 32) c5) (33 + 0) (bs (1 :: (a ++ b.take 0)))) := Lib.hid (by have := hown.out; rw [List.take_of_length_le (by rw [HA.out]; exact Nat.le_refl _)] at this; simpa using this)
      go_wp2_with fail
      go_loopg [5, 7] 32 (fun gk s5 s7 wr => ∃ i : Nat, i + gk = 32 ∧ s7 = .int .i64 (i : Int) ∧ Hid (wr.ownsRow W0.heap.size 5 1 s5 (33 + i) (bs (1 :: (a ++ b.take i)))) ∧ Hid (Below W0.heap.size W0 wr))
      case atStart => exact ⟨0, by omega, rfl, HOWN2, hb⟩
      case round =>
        clear HOWN2 hown hb
        obtain ⟨i, hig, rfl, hown, hb⟩ := hrel
        obtain ⟨A6, c6, e6, hc6, _, _⟩ := own_slice hown.out
        subst e6
        cases gk with
        | zero =>
          obtain rfl : i = 32 := by omega
          clear hig
          go_wp2_with fail
          go_ret
          refine ⟨_, rfl, ?_, HB3.out.trans (hb.out.mono HB3.out.size)⟩
          have h := own_base hown.out HB3.out.size
          rwa [List.take_of_length_le (by rw [HB.out]; exact Nat.le_refl _)] at h
        | succ gk =>
          have hi32 : i < 32 := by omega
          have hii : (i : Int) < 32 := by omega
          obtain ⟨z, hzz⟩ : ∃ z, b[i]? = some z := ⟨_, List.getElem?_eq_getElem (by rw [HB.out]; exact hi32)⟩
          have cb := ((HK2.out.below hb.out HK2.out.lt).cell i).trans (HGB.out i z hzz)
          have HTB := Lib.hid (show b.take (i + 1) = b.take i ++ [z] by rw [List.take_add_one, hzz]; rfl)
          have HSZ := Lib.hid hb.out.size
          clear hzz
          go_wp2_with (at_builtin
                       refine wpList_append_any _ rfl (.tmp 23) (.tmp 27) _ rfl W0.heap.size 5 i0 _ 1 1 Tryd.underlying37 hi0 hz0 hz1 hz2 rfl (by omega) (.slice A6 (33 + i) c6) (33 + i) _ rfl
                         (hown.out.alloc _) (wr.heap.size + 1) (some ⟨wr.heap.size, 0, none⟩) 1 1 _ rfl (Reads.new wr _ _) (one_int _ _) (by unfold maxLen; omega) (by omega) (by simp; have := HSZ.out; omega) ?_
                       intro v4 w4 hown4 hg4 hat4)
          go_roundg gk
          case measure => omega
          case rel =>
            refine ⟨i + 1, by omega, by go_num, Lib.hid ?_, Lib.hid (below_app hb.out hown.out HSZ.out hg4)⟩
            rw [HTB.out, ← List.append_assoc, ← List.cons_append, bs_append]
            exact hown4
    | succ gk =>
      have hi32 : i < 32 := by omega
      have hii : (i : Int) < 32 := by omega
      obtain ⟨y, hy⟩ : ∃ y, a[i]? = some y := ⟨_, List.getElem?_eq_getElem (by rw [HA.out]; exact hi32)⟩
      have ca := ((HK1.out.below hb.out HK1.out.lt).cell i).trans (HGA.out i y hy)
      have HTA := Lib.hid (show a.take (i + 1) = a.take i ++ [y] by rw [List.take_add_one, hy]; rfl)
      have HSZ := Lib.hid hb.out.size
      clear hy
      go_wp2_with (at_builtin
                   refine wpList_append_any _ rfl (.tmp 13) (.tmp 17) _ rfl W0.heap.size 5 i0 _ 1 1 Tryd.underlying37 hi0 hz0 hz1 hz2 rfl (by omega) (.slice A5 (1 + i) c5) (1 + i) _ rfl
                     (hown.out.alloc _) (wr.heap.size + 1) (some ⟨wr.heap.size, 0, none⟩) 1 1 _ rfl (Reads.new wr _ _) (one_int _ _) (by unfold maxLen; omega) (by omega) (by simp; have := HSZ.out; omega) ?_
                   intro v3 w3 hown3 hg3 hat3)
      go_roundg gk
      case measure => omega
      case rel =>
        refine ⟨i + 1, by omega, by go_num, Lib.hid ?_, Lib.hid (below_app hb.out hown.out HSZ.out hg3)⟩
        rw [HTA.out, ← List.cons_append, bs_append]
        exact hown3
end Go.Proofs.YtkopoepoinkpeaaDoor
