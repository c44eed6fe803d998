/- Texts joined: TrRefLeaf TrRefSpl. -/
import Derived.Deep.RegionLaw
import Derived.Test.YtfpbijnlmlaloaaDoorTrLeaf
import Derived.Test.YtfpbijnlmlaloaaDoorJ33
import Derived.Test.YtfpbijnlmlaloaaDoorTrRootOf
import Derived.Test.YtfpbijnlmlaloaaDoorJ26
/- Contracts of the document's Leaf and Node, and of what a leaf's and a node's digest is of. No condition. -/
namespace Go.Proofs.YtfpbijnlmlaloaaDoor
open Go.RowKit
set_option linter.unusedVariables false
set_option linter.unusedSimpArgs false
set_option maxRecDepth 100000

set_option maxHeartbeats 1000000 in
theorem refLeaf_any (A : Option Addr) (n c : Nat) (l : List Nat) (w : World) (hr : Reads w w.heap.size 1 A n (bs l)) (hl : ∀ b ∈ l, b < 256) (hc : n ≤ c) (hn : n ≤ 4294960000) :
    Calls Tryd.prog 31 #[.slice A n c] w (HashTo w w.heap.size (leafD l)) := by
  have hlen : l.length = n := by have := hr.1; rw [bs_length] at this; omega
  subst hlen
  have hz := (zero_of_info info_hash).1
  have hR1 := Blk.new w 33 (Array.replicate 32 (.int .u8 0))
  have hb1 : Below w.heap.size w (w.alloc (.cells (Array.replicate 32 (.int .u8 0)) 33)) := (Below.refl _ _).alloc (Nat.le_refl _) _
  obtain ⟨w1, hw1⟩ : ∃ w1 : World, w1 = w.alloc (.cells (Array.replicate 32 (.int .u8 0)) 33) := ⟨_, rfl⟩
  have hs1 : w1.heap.size = w.heap.size + 1 := by rw [hw1]; simp
  rw [← hw1] at hR1 hb1
  have hw1' := hw1.symm
  clear hw1
  have hr1 : IsC w1 (.slice A l.length c) l := ⟨A, c, rfl, hc, (hr.below hb1).more hb1.size⟩
  have hcall := refTagged_any 0 (some ⟨w1.heap.size, 0, none⟩) 1 1 [l] (w1.alloc (.cells #[.slice A l.length c] 36)) (by omega) rfl (by omega) (LC.laid (vs := [.slice A l.length c]) ⟨hr1, trivial⟩ (by simp)) (by intro x hx; simp at hx; subst hx; exact hl) (by simp; omega)
  rw [show (0 :: [l].flatten) = 0 :: l by simp] at hcall
  have HC := Lib.hid hcall
  have HRES := Lib.hid hR1; have HB1 := Lib.hid hb1; have HS1 := Lib.hid hs1
  obtain ⟨V, hV, hvz, hon, hvi⟩ := hash_ok (leafD l) (leafD_len l)
  have HV := Lib.hid hV; have HVZ := Lib.hid hvz; have HON := Lib.hid hon; have HVI := Lib.hid hvi
  clear hV hvz hon hvi hR1 hb1 hs1 hr hl hcall hr1
  go_enter Tryd.func31, Tryd.ntmps31
  go_wp2_with fail
  refine HC.out.mono ?_
  rintro _ w2 ⟨rfl, hb2⟩
  have hb3 := ((Below.refl w1.heap.size w1).alloc (Nat.le_refl _) (.cells #[.slice A l.length c] 36)).trans (hb2.mono (by simp))
  have HR5 := Lib.hid (HRES.out.below hb3 HRES.out.lt)
  have HB5 := Lib.hid (HB1.out.trans (hb3.mono (by have := HS1.out; omega)))
  have e1 : (bs (shaN (0 :: l))).toArray = V := HV.out
  rw [e1]
  clear e1 hb2 hb3
  go_wp2_with (refine wpList_store_row (by rfl) (.tmp 2) (.tmp 5) (by rfl) (by rfl) (by rfl) HR5.out HVI.out (by rw [HVZ.out]; simp) HON.out ?_)
  refine bodyPost_ret (v := .agg V) (results_cell_row rfl _ _ _ _ _ _ _ (by rfl) (HR5.out.row V) Tryd.underlying33 rfl HVI.out) rfl ⟨by rw [HV.out], Below.row HB5.out (Nat.le_refl _) _⟩
set_option maxHeartbeats 2000000 in
theorem refNode_any (a b : List Nat) (w : World) (ha : a.length = 32) (hb : b.length = 32) (ha2 : ∀ x ∈ a, x < 256) (hb2 : ∀ x ∈ b, x < 256) :
    Calls Tryd.prog 32 #[.agg (bs a).toArray, .agg (bs b).toArray] w (HashTo w w.heap.size (nodeD a b)) := by
  obtain ⟨i0, hi0, hz0, hz1, hz2⟩ := info_parts info_u8
  have hz := (zero_of_info info_hash).1
  have b1 := (Below.refl w.heap.size w).alloc (Nat.le_refl _) (.cells (bs a).toArray 33)
  have b2 := b1.alloc b1.size (.cells (bs b).toArray 33)
  have b3 := b2.alloc b2.size (.cells (Array.replicate 32 (.int .u8 0)) 33)
  have k1 := ((Blk.new w 33 (bs a).toArray).alloc (.cells (bs b).toArray 33)).alloc (.cells (Array.replicate 32 (.int .u8 0)) 33)
  have k2 := (Blk.new (w.alloc (.cells (bs a).toArray 33)) 33 (bs b).toArray).alloc (.cells (Array.replicate 32 (.int .u8 0)) 33)
  have k3 := Blk.new ((w.alloc (.cells (bs a).toArray 33)).alloc (.cells (bs b).toArray 33)) 33 (Array.replicate 32 (.int .u8 0))
  simp only [World.size_alloc] at k2 k3
  obtain ⟨W0, hW0⟩ : ∃ W0, ((w.alloc (.cells (bs a).toArray 33)).alloc (.cells (bs b).toArray 33)).alloc (.cells (Array.replicate 32 (.int .u8 0)) 33) = W0 := ⟨_, rfl⟩
  have hs0 : W0.heap.size = w.heap.size + 1 + 1 + 1 := by rw [← hW0]; simp
  rw [hW0] at b3 k1 k2 k3
  obtain ⟨VA, hVA⟩ : ∃ V, (bs a).toArray = V := ⟨_, rfl⟩
  obtain ⟨VB, hVB⟩ : ∃ V, (bs b).toArray = V := ⟨_, rfl⟩
  rw [hVA] at hW0 k1
  rw [hVB] at hW0 k2
  rw [hVA, hVB]
  have hga : ∀ i y : Nat, a[i]? = some y → VA[i]? = some (Value.int .u8 (y : Int)) := fun i y hy => by rw [← hVA, List.getElem?_toArray]; unfold bs; rw [List.getElem?_map, hy]; rfl
  have hgb : ∀ i y : Nat, b[i]? = some y → VB[i]? = some (Value.int .u8 (y : Int)) := fun i y hy => by rw [← hVB, List.getElem?_toArray]; unfold bs; rw [List.getElem?_map, hy]; rfl
  have HB3 := Lib.hid b3; have HK1 := Lib.hid k1; have HK2 := Lib.hid k2; have HK3 := Lib.hid k3; have HS0 := Lib.hid hs0; have HGA := Lib.hid hga; have HGB := Lib.hid hgb; have HA := Lib.hid ha; have HB := Lib.hid hb; have HA2 := Lib.hid ha2; have HB2 := Lib.hid hb2
  obtain ⟨V, hV, hvz, hon, hvi⟩ := hash_ok (nodeD a b) (nodeD_len _ _)
  have HV := Lib.hid hV; have HVZ := Lib.hid hvz; have HON := Lib.hid hon; have HVI := Lib.hid hvi
  clear b1 b2 b3 k1 k2 k3 hs0 hga hgb ha hb ha2 hb2 hV hvz hon hvi hVA hVB
  go_enter Tryd.func32, Tryd.ntmps32
  go_wp2_with fail
  clear hW0
  go_loopg [5, 6, 7] 32 (fun gk s5 s6 s7 wr => ∃ i : Nat, i + gk = 32 ∧ s7 = .int .i64 (i : Int) ∧ Hid (Two wr W0.heap.size 5 s5 s6 i i (bs (a.take i)) (bs (b.take i))) ∧ Hid (Below W0.heap.size W0 wr))
  case atStart => exact ⟨0, by omega, rfl, Lib.hid (Two.nil _ _ _), Lib.hid (Below.refl _ _)⟩
  case round =>
    obtain ⟨i, hig, rfl, ht2, hb⟩ := hrel
    obtain ⟨A5, c5, e5, hc5, _, hr5⟩ := own_slice ht2.out.1
    obtain ⟨A6, c6, e6, hc6, _, hr6⟩ := own_slice ht2.out.2.1
    subst e5 e6
    cases gk with
    | zero =>
      obtain rfl : i = 32 := by omega
      clear hig
      rw [List.take_of_length_le (by rw [HA.out]; exact Nat.le_refl _)] at hr5
      rw [List.take_of_length_le (by rw [HB.out]; exact Nat.le_refl _)] at hr6
      have hcall := refTagged_any 1 (some ⟨wr.heap.size, 0, none⟩) 2 2 [a, b] (wr.alloc (.cells #[.slice A5 32 c5, .slice A6 32 c6] 36)) (by omega) rfl (by omega)
        (LC.laid (vs := [.slice A5 32 c5, .slice A6 32 c6]) ⟨⟨A5, c5, by rw [HA.out], by rw [HA.out]; exact hc5, by rw [HA.out]; exact hr5⟩, ⟨A6, c6, by rw [HB.out], by rw [HB.out]; exact hc6, by rw [HB.out]; exact hr6⟩, trivial⟩ (by simp)) (by intro x hx; simp at hx; rcases hx with rfl | rfl; exact HA2.out; exact HB2.out) (by simp [HA.out, HB.out])
      rw [show (1 :: [a, b].flatten) = 1 :: (a ++ b) by simp] at hcall
      have HC := Lib.hid hcall
      clear hcall hr5 hr6
      go_wp2_with fail
      refine HC.out.mono ?_
      rintro _ w6 ⟨rfl, hb6⟩
      have hb7 := hb.out.trans (((Below.refl wr.heap.size wr).alloc (Nat.le_refl _) (.cells #[.slice A5 32 c5, .slice A6 32 c6] 36)).trans (hb6.mono (by simp)) |>.mono hb.out.size)
      have HK6 := Lib.hid (HK3.out.below hb7 HK3.out.lt)
      have HB6 := Lib.hid (HB3.out.trans (hb7.mono HB3.out.size))
      have e1 : (bs (shaN (1 :: (a ++ b)))).toArray = V := HV.out
      rw [e1]
      clear e1 hb6 hb7
      go_wp2_with (refine wpList_store_row (by rfl) (.tmp 4) (.tmp 27) (by rfl) (by rfl) (by rfl) HK6.out HVI.out (by rw [HVZ.out]; simp) HON.out ?_)
      refine bodyPost_ret (v := .agg V) (results_cell_row rfl _ _ _ _ _ _ _ (by rfl) (HK6.out.row V) Tryd.underlying33 rfl HVI.out) rfl ⟨by rw [HV.out], Below.row HB6.out (by omega) _⟩
    | succ gk =>
      have hi32 : i < 32 := by omega
      have hii : (i : Int) < 32 := by omega
      obtain ⟨y, hy⟩ : ∃ y, a[i]? = some y := ⟨_, List.getElem?_eq_getElem (by rw [HA.out]; exact hi32)⟩
      obtain ⟨z, hzz⟩ : ∃ z, b[i]? = some z := ⟨_, List.getElem?_eq_getElem (by rw [HB.out]; exact hi32)⟩
      have ca := ((HK1.out.below hb.out HK1.out.lt).cell i).trans (HGA.out i y hy)
      have HCB := Lib.hid fun (W : World) (hW : Below W0.heap.size W0 W) => ((HK2.out.below hW HK2.out.lt).cell i).trans (HGB.out i z hzz)
      have HTA := Lib.hid (show a.take (i + 1) = a.take i ++ [y] by rw [List.take_add_one, hy]; rfl)
      have HTB := Lib.hid (show b.take (i + 1) = b.take i ++ [z] by rw [List.take_add_one, hzz]; rfl)
      have HSZ := Lib.hid hb.out.size
      clear hy hzz hr5 hr6
      go_wp2_with (at_builtin
                   first
                     | (refine wpList_append_any _ rfl (.tmp 12) (.tmp 16) _ rfl W0.heap.size 5 i0 _ 1 1 Tryd.underlying36 hi0 hz0 hz1 hz2 rfl (by omega) (.slice A5 i c5) i _ rfl
                         (ht2.out.1.alloc _) (wr.heap.size + 1) (some ⟨wr.heap.size, 0, none⟩) 1 1 _ rfl (Reads.new wr _ _) (one_int _ _) (by unfold maxLen; omega) (by omega) (by simp; have := HSZ.out; omega) ?_
                        intro v3 w3 hown3 hg3 hat3
                        have T3 := Lib.hid (Two.grown ht2.out hown3 hg3 hat3)
                        have B3 := Lib.hid (below_app hb.out ht2.out.1 HSZ.out hg3)
                        have HSZ3 := Lib.hid B3.out.size
                        have cb := HCB.out w3 B3.out
                        obtain ⟨A7, c7, e7, hc7, _, _⟩ := own_slice hown3
                        subst e7
                        clear hown3 hg3 hat3 ca)
                     | (refine wpList_append_any _ rfl (.tmp 18) (.tmp 22) _ rfl W0.heap.size 5 i0 _ 1 1 Tryd.underlying36 hi0 hz0 hz1 hz2 rfl (by omega) (.slice A6 i c6) i _ rfl
                         (T3.out.2.1.alloc _) (w3.heap.size + 1) (some ⟨w3.heap.size, 0, none⟩) 1 1 _ rfl (Reads.new w3 _ _) (one_int _ _) (by unfold maxLen; omega) (by omega) (by simp; have := HSZ3.out; omega) ?_
                        intro v4 w4 hown4 hg4 hat4))
      go_roundg gk
      case measure => omega
      case rel =>
        refine ⟨i + 1, by omega, by go_num, Lib.hid ?_, Lib.hid (below_app B3.out T3.out.2.1 HSZ3.out hg4)⟩
        have := (Two.grown T3.out.swap hown4 hg4 hat4).swap
        rw [HTA.out, HTB.out, bs_append, bs_append]
        exact this
end Go.Proofs.YtfpbijnlmlaloaaDoor

/- Contract of the document's Split. No condition. -/
namespace Go.Proofs.YtfpbijnlmlaloaaDoor
open Go.RowKit
set_option linter.unusedVariables false
set_option linter.unusedSimpArgs false
set_option maxRecDepth 100000

set_option maxHeartbeats 1000000 in
theorem refSplit_any (n : Int) (w : World) (h0 : -9223372036854775808 ≤ n) (h1 : n ≤ 1152921504606846976) :
    Calls Tryd.prog 28 #[.int .i64 n] w fun e w' => e = .returned (.int .i64 (spl n.toNat : Int)) ∧ w = w' := by
  by_cases h2 : n < 2
  · rw [spl_small (by omega)]
    go_enter Tryd.func28, Tryd.ntmps28
    go_wp2_with fail
    go_ret
    exact ⟨rfl, rfl⟩
  · obtain ⟨m, rfl⟩ : ∃ m : Nat, n = (m : Int) := ⟨n.toNat, by omega⟩
    have hm2 : 2 ≤ m := by omega
    rw [Int.toNat_natCast]
    go_enter Tryd.func28, Tryd.ntmps28
    go_wp2_with fail
    go_loop [3] (fun s => ∃ k : Nat, s = .int .i64 (k : Int) ∧ 0 < k ∧ k < m ∧ Hid (∃ e, k = 2 ^ e)) (fun s => m - (intOf s).toNat)
    case atStart => exact ⟨1, rfl, by omega, by omega, Lib.hid ⟨0, rfl⟩⟩
    case round =>
      obtain ⟨k, rfl, hk0, hkm, hp⟩ := hrel
      by_cases hlt : k < m - k
      · have hq : (k : Int) < (m : Int) - (k : Int) := by omega
        have hp2 : Hid (∃ e, 2 * k = 2 ^ e) := Lib.hid (by obtain ⟨e, he⟩ := hp.out; exact ⟨e + 1, by rw [Nat.pow_succ, he]; omega⟩)
        have hw : IntKind.i64.wrap (2 * (k : Int)) = 2 * (k : Int) := IntWalk.i64_in _ (by omega)
        go_wp2_with fail
        go_round
        case rel => exact ⟨2 * k, by go_num, by omega, by omega, hp2⟩
        case measure => simp [intOf]; omega
      · have hq : ¬ (k : Int) < (m : Int) - (k : Int) := by omega
        have hs : Hid (spl m = k) := Lib.hid (by obtain ⟨e, he⟩ := hp.out; rw [he]; exact spl_is (by omega) (by omega))
        go_wp2_with fail
        go_ret
        exact ⟨by rw [hs.out]; rfl, rfl⟩
end Go.Proofs.YtfpbijnlmlaloaaDoor
