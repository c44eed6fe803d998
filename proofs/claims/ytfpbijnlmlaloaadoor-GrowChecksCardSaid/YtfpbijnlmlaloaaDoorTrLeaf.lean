/- Contracts of package tree's Leaf and Node. No condition. -/
import Derived.Deep.RegionLaw
import Derived.Deep.RegionWith
import Derived.Deep.DeepCutAuto
import Derived.Deep.CutBlock
import Derived.Test.YtfpbijnlmlaloaaDoorJ9
import Derived.Test.YtfpbijnlmlaloaaDoorTrPlain
import Derived.Test.YtfpbijnlmlaloaaDoorJ22
import Derived.Test.YtfpbijnlmlaloaaDoorWhole
namespace Go.Proofs.YtfpbijnlmlaloaaDoor
open Go.RowKit
set_option linter.unusedVariables false
set_option linter.unusedSimpArgs false
set_option maxRecDepth 100000

set_option maxHeartbeats 1000000 in
theorem leaf_any (A : Option Addr) (n c : Nat) (l : List Nat) (w : World) (hr : Reads w w.heap.size 1 A n (bs l)) (hl : ∀ b ∈ l, b < 256) (hc : n ≤ c) (hn : n ≤ 4294960000) (ht : ShTab w) :
    Calls Tryd.prog 16 #[.slice A n c] w (HashTo w w.heap.size (leafD l)) := by
  have hlen : l.length = n := by have := hr.1; rw [bs_length] at this; omega
  subst hlen
  have hz := (zero_of_info info_hash).1
  have hsz := Lib.hid (zero_of_info info_hash).2
  have hR1 := Blk.new w 33 (Array.replicate 32 (.int .u8 0))
  have hb1 : Below w.heap.size w (w.alloc (.cells (Array.replicate 32 (.int .u8 0)) 33)) := (Below.refl _ _).alloc (Nat.le_refl _) _
  obtain ⟨w1, hw1⟩ : ∃ w1 : World, w1 = w.alloc (.cells (Array.replicate 32 (.int .u8 0)) 33) := ⟨_, rfl⟩
  have hs1 : w1.heap.size = w.heap.size + 1 := by rw [hw1]; simp
  rw [← hw1] at hR1 hb1
  have hw1' := hw1.symm
  clear hw1
  have hr1 : IsC w1 (.slice A l.length c) l := ⟨A, c, rfl, hc, (hr.below hb1).more hb1.size⟩
  have hcall := tagged_any 0 (some ⟨w1.heap.size, 0, none⟩) 1 1 [l] (w1.alloc (.cells #[.slice A l.length c] 36)) (by omega) rfl (by omega) (LC.laid (vs := [.slice A l.length c]) ⟨hr1, trivial⟩ (by simp)) (by intro x hx; simp at hx; subst hx; exact hl) (by simp; omega) (ht.next (hb1.alloc hb1.size _))
  rw [show (0 :: [l].flatten) = 0 :: l by simp] at hcall
  have HC := Lib.hid hcall
  have HRES := Lib.hid hR1; have HB1 := Lib.hid hb1; have HS1 := Lib.hid hs1
  clear hR1 hb1 hs1 hr hl ht hcall hr1
  go_enter Tryd.func16, Tryd.ntmps16
  go_wp2_with fail
  refine HC.out.mono ?_
  rintro _ w2 ⟨rfl, hb2⟩
  have hb3 := ((Below.refl w1.heap.size w1).alloc (Nat.le_refl _) (.cells #[.slice A l.length c] 36)).trans (hb2.mono (by simp))
  have HR5 := Lib.hid (HRES.out.below hb3 HRES.out.lt)
  have HB5 := Lib.hid (HB1.out.trans (hb3.mono (by have := HS1.out; omega)))
  have hsz2 : ((bs (shaN (0 :: l))).toArray).size = 32 := by simp [bs_length, shaN_length]
  have hone : ((bs (shaN (0 :: l))).toArray).all (·.oneCell') = true := all_oneCell_toArray (bs_one _)
  have HZ2 := Lib.hid hsz2; have HON := Lib.hid hone
  clear hsz2 hone hb2 hb3
  obtain ⟨V, hV⟩ : ∃ V : Array Value, V = (bs (shaN (0 :: l))).toArray := ⟨_, rfl⟩
  rw [← hV] at HZ2 HON ⊢
  have HV := Lib.hid hV; clear hV
  go_wp2_with (refine wpList_store_row (by rfl) (.tmp 2) (.tmp 5) (by rfl) (by rfl) (by rfl) HR5.out (by rw [HZ2.out]; exact hsz.out) (by rw [HZ2.out]; simp) HON.out ?_)
  refine bodyPost_ret (v := .agg V) (results_cell_row rfl _ _ _ _ _ _ _ (by rfl) (HR5.out.row V) Tryd.underlying33 rfl (by rw [HZ2.out]; exact hsz.out)) rfl ⟨by rw [HV.out]; rfl, Below.row HB5.out (Nat.le_refl _) _⟩
set_option maxHeartbeats 2000000 in
theorem node_any (a b : List Nat) (w : World) (ha : a.length = 32) (hb : b.length = 32) (ha2 : ∀ x ∈ a, x < 256) (hb2 : ∀ x ∈ b, x < 256) (ht : ShTab w) :
    Calls Tryd.prog 29 #[.agg (bs a).toArray, .agg (bs b).toArray] w (HashTo w w.heap.size (nodeD a b)) := by
  have hz := (zero_of_info info_hash).1
  have hsz := Lib.hid (zero_of_info info_hash).2
  have hA : (bs a).toArray.size = 32 := by simp [bs_length, ha]
  have hB : (bs b).toArray.size = 32 := by simp [bs_length, hb]
  have b1 := (Below.refl w.heap.size w).alloc (Nat.le_refl _) (.cells (bs a).toArray 33)
  have b2 := b1.alloc b1.size (.cells (bs b).toArray 33)
  have b3 := b2.alloc b2.size (.cells (Array.replicate 32 (.int .u8 0)) 33)
  have k1 := ((Blk.new w 33 (bs a).toArray).alloc (.cells (bs b).toArray 33)).alloc (.cells (Array.replicate 32 (.int .u8 0)) 33)
  have k2 := (Blk.new (w.alloc (.cells (bs a).toArray 33)) 33 (bs b).toArray).alloc (.cells (Array.replicate 32 (.int .u8 0)) 33)
  have k3 := Blk.new ((w.alloc (.cells (bs a).toArray 33)).alloc (.cells (bs b).toArray 33)) 33 (Array.replicate 32 (.int .u8 0))
  simp only [World.size_alloc] at k2 k3
  obtain ⟨W0, hW0⟩ : ∃ W0, ((w.alloc (.cells (bs a).toArray 33)).alloc (.cells (bs b).toArray 33)).alloc (.cells (Array.replicate 32 (.int .u8 0)) 33) = W0 := ⟨_, rfl⟩
  have hs0 : W0.heap.size = w.heap.size + 1 + 1 + 1 := by rw [← hW0]; simp
  rw [hW0] at b3 k1 k2 k3
  have HNODE := Lib.hid fun (W : World) (hW : Below W0.heap.size W0 W) =>
    tagged_any 1 (some ⟨W.heap.size, 0, none⟩) 2 2 [a, b] (W.alloc (.cells #[.slice (some ⟨w.heap.size, 0, none⟩) 32 32, .slice (some ⟨w.heap.size + 1, 0, none⟩) 32 32] 36)) (by omega) rfl (by omega)
      (LC.laid (vs := [.slice (some ⟨w.heap.size, 0, none⟩) 32 32, .slice (some ⟨w.heap.size + 1, 0, none⟩) 32 32]) ⟨by have := IsC.blk (k1.below hW k1.lt) (c := 32) (by omega); rwa [ha] at this, by have := IsC.blk (k2.below hW k2.lt) (c := 32) (by omega); rwa [hb] at this, trivial⟩ (by simp)) (by intro x hx; simp at hx; rcases hx with rfl | rfl; exact ha2; exact hb2) (by simp; omega) (ht.next ((b3.trans (hW.mono b3.size)).alloc (Nat.le_trans b3.size hW.size) _))
  rw [show (1 :: [a, b].flatten) = 1 :: (a ++ b) by simp] at HNODE
  have HB3 := Lib.hid b3; have HK3 := Lib.hid k3; have HS0 := Lib.hid hs0
  obtain ⟨VA, hVA⟩ : ∃ V, (bs a).toArray = V := ⟨_, rfl⟩
  obtain ⟨VB, hVB⟩ : ∃ V, (bs b).toArray = V := ⟨_, rfl⟩
  rw [hVA] at hA hW0
  rw [hVB] at hB hW0
  rw [hVA, hVB]
  have HVA := Lib.hid hVA; have HVB := Lib.hid hVB
  have hsz2 : ((bs (nodeD a b)).toArray).size = 32 := by simp [bs_length, nodeD_len]
  have hone : ((bs (nodeD a b)).toArray).all (·.oneCell') = true := all_oneCell_toArray (bs_one _)
  obtain ⟨V, hV⟩ : ∃ V : Array Value, (bs (nodeD a b)).toArray = V := ⟨_, rfl⟩
  have HN2 : Hid (∀ (W : World), Below W0.heap.size W0 W → Calls Tryd.prog 26 #[.int .u8 1, .slice (some ⟨W.heap.size, 0, none⟩) 2 2] (W.alloc (.cells #[.slice (some ⟨w.heap.size, 0, none⟩) 32 32, .slice (some ⟨w.heap.size + 1, 0, none⟩) 32 32] 36)) fun e w' => e = .returned (.agg V) ∧ Below (W.heap.size + 1) (W.alloc (.cells #[.slice (some ⟨w.heap.size, 0, none⟩) 32 32, .slice (some ⟨w.heap.size + 1, 0, none⟩) 32 32] 36)) w') := Lib.hid fun W hW => (HNODE.out W hW).mono fun e w' h => ⟨by rw [h.1, ← hV]; rfl, by have := h.2; rwa [World.size_alloc] at this⟩
  rw [hV] at hsz2 hone
  have HV := Lib.hid hV
  clear b1 b2 b3 k1 k2 k3 hs0 HNODE hVA hVB hV ht ha2 hb2
  go_enter Tryd.func29, Tryd.ntmps29
  go_upto_region 1 with fail
  clear hW0
  have hb0 := Below.drew (Below.refl W0.heap.size W0)
  go_region_law (first
    | (go_simp; go_at_call 26; refine (HN2.out _ hb0).mono ?_
       rintro e V1 ⟨rfl, hv1⟩
       have K3 := ((HK3.out.below hb0 HK3.out.lt).alloc (.cells #[.slice (some ⟨w.heap.size, 0, none⟩) 32 32, .slice (some ⟨w.heap.size + 1, 0, none⟩) 32 32] 36)).below hv1 (by show _ < W0.heap.size + 1; have := HS0.out; omega)
       have hst := run_storeCells_row (P := Tryd.prog) K3 (cs' := V) (by rw [hsz2]; exact hsz.out) (by rw [hsz2]; simp) hone
       have B3 : Below W0.heap.size W0 V1 := (hb0.alloc (by simp) (.cells #[.slice (some ⟨w.heap.size, 0, none⟩) 32 32, .slice (some ⟨w.heap.size + 1, 0, none⟩) 32 32] 36)).trans (hv1.mono (by show W0.heap.size ≤ W0.heap.size + 1; omega))
       show _))
  have KK := Lib.hid (K3.row V)
  have BB := Lib.hid (Below.row (HB3.out.trans (B3.mono HB3.out.size)) (show w.heap.size ≤ w.heap.size + 1 + 1 by omega) V)
  clear hst K3 hv1 B3
  go_wp2_with fail
  exact bodyPost_ret (v := .agg V) (results_cell_row rfl _ _ _ _ _ _ _ (by rfl) KK.out Tryd.underlying33 rfl (by rw [hsz2]; exact hsz.out)) rfl ⟨by rw [← HV.out], BB.out⟩
end Go.Proofs.YtfpbijnlmlaloaaDoor
