/- Contract of package tree's Root. No condition. -/
import Derived.Test.YtfpbijnlmlaloaaDoorTrRootOf
namespace Go.Proofs.YtfpbijnlmlaloaaDoor
open Go.RowKit
set_option linter.unusedVariables false
set_option linter.unusedSimpArgs false
set_option maxRecDepth 100000

theorem HsAt.blk {w : World} {g : Nat} {t : TypeId} {ds : List (List Nat)} (h : Blk w g t (bs ds.flatten).toArray) (hd : Dg ds) : HsAt w (some ⟨g, 0, none⟩) ds := by
  refine ⟨by rw [bs_length, hd.len], fun _ => ⟨_, rfl, h.lt, fun j u hu => ?_⟩⟩
  rw [plain_add, Nat.zero_add, h.cell]
  simpa using hu
set_option maxHeartbeats 2000000 in
theorem root_any (A : Option Addr) (n c : Nat) (ls : List (List Nat)) (w : World) (hn : ls.length = n) (hn2 : n ≤ 1000000) (hp : LC w A ls) (hbt : ∀ l ∈ ls, ∀ b ∈ l, b < 256) (hlong : ∀ l ∈ ls, l.length ≤ 4294960000) (ht : ShTab w) :
    Calls Tryd.prog 15 #[.slice A n c] w (HashTo w w.heap.size (rootL ls)) := by
  have hz := (zero_of_info info_hash).1
  have hsz := Lib.hid (zero_of_info info_hash).2
  have hR1 := Blk.new w 33 (Array.replicate 32 (.int .u8 0))
  have hb1 : Below w.heap.size w (w.alloc (.cells (Array.replicate 32 (.int .u8 0)) 33)) := (Below.refl _ _).alloc (Nat.le_refl _) _
  obtain ⟨w1, hw1⟩ : ∃ w1 : World, w.alloc (.cells (Array.replicate 32 (.int .u8 0)) 33) = w1 := ⟨_, rfl⟩
  have hs1 : w1.heap.size = w.heap.size + 1 := by rw [← hw1]; simp
  rw [hw1] at hR1 hb1
  have HT := Lib.hid (ht.next hb1)
  have HRES := Lib.hid hR1; have HB1 := Lib.hid hb1; have HS1 := Lib.hid hs1
  have h32 := rootL_len ls
  obtain ⟨V, hV, hvz, hon, hvi⟩ := hash_ok (rootL ls) h32
  have HV := Lib.hid hV; have HVZ := Lib.hid hvz; have HON := Lib.hid hon; have HVI := Lib.hid hvi
  clear hV hvz hon hvi h32 hR1 hs1 ht
  by_cases h0 : n = 0
  · subst h0
    obtain rfl : ls = [] := List.eq_nil_of_length_eq_zero hn
    have HC := Lib.hid (sumS_any none 0 0 [] w1 Reads.none_ (by simp) (Nat.le_refl _) (by omega) HT.out)
    clear hn hp hbt hlong hb1
    go_enter Tryd.func15, Tryd.ntmps15
    go_wp2_with fail
    refine HC.out.mono ?_
    rintro _ w2 ⟨rfl, hb2⟩
    have e1 : (bs (shaN [])).toArray = V := HV.out
    rw [e1]
    have HK := Lib.hid (HRES.out.below hb2 HRES.out.lt)
    have HB := Lib.hid (HB1.out.trans (hb2.mono HB1.out.size))
    clear e1 hb2
    go_wp2_with (refine wpList_store_row (by rfl) (.tmp 2) (.tmp 6) (by rfl) (by rfl) (by rfl) HK.out HVI.out (by rw [HVZ.out]; simp) HON.out ?_)
    refine bodyPost_ret (v := .agg V) (results_cell_row rfl _ _ _ _ _ _ _ (by rfl) (HK.out.row V) Tryd.underlying33 rfl HVI.out) rfl ⟨by rw [HV.out], Below.row HB.out (Nat.le_refl _) _⟩
  · have HC := Lib.hid (digests_any A n c ls w1 hn hn2 (hp.next hb1) hbt hlong HT.out)
    have hrl : rootL ls = rootD (ls.map leafD) := by unfold rootL; rw [if_neg (by omega)]
    have HRL := Lib.hid hrl
    have HLM := Lib.hid (show (ls.map leafD).length = n by rw [List.length_map]; exact hn)
    clear hn hp hbt hlong hb1 hrl
    have h0' : ¬ (n : Int) = 0 := by omega
    go_enter Tryd.func15, Tryd.ntmps15
    go_wp2_with fail
    refine HC.out.mono ?_
    rintro _ w2 ⟨rfl, hk2, hb2⟩
    have HC2 := Lib.hid (rootOf_any n (ls.map leafD) w1.heap.size 0 n w2 HLM.out (by omega) hn2 (Dg.leaves ls) (HsAt.blk hk2 (Dg.leaves ls)) (Nat.le_refl _) (HT.out.next hb2))
    have HB12 := Lib.hid hb2
    clear hk2 hb2
    go_wp2_with fail
    refine HC2.out.mono ?_
    rintro _ w3 ⟨rfl, hb3⟩
    have e1 : (bs (rootD (ls.map leafD))).toArray = V := by rw [← HV.out, HRL.out]
    rw [e1]
    have hb13 := HB12.out.trans (hb3.mono HB12.out.size)
    have HK := Lib.hid (HRES.out.below hb13 HRES.out.lt)
    have HB := Lib.hid (HB1.out.trans (hb13.mono HB1.out.size))
    clear e1 hb3 hb13
    go_wp2_with (refine wpList_store_row (by rfl) (.tmp 2) (.tmp 9) (by rfl) (by rfl) (by rfl) HK.out HVI.out (by rw [HVZ.out]; simp) HON.out ?_)
    refine bodyPost_ret (v := .agg V) (results_cell_row rfl _ _ _ _ _ _ _ (by rfl) (HK.out.row V) Tryd.underlying33 rfl HVI.out) rfl ⟨by rw [HV.out], Below.row HB.out (Nat.le_refl _) _⟩
end Go.Proofs.YtfpbijnlmlaloaaDoor
