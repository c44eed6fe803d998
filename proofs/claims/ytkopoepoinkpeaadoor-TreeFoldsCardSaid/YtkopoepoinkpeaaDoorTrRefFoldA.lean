/- Contract of the document's Fold. No condition. -/
import Derived.Test.YtkopoepoinkpeaaDoorTrFoldP
import Derived.Test.YtkopoepoinkpeaaDoorTrRefLeaf
namespace Go.Proofs.YtkopoepoinkpeaaDoor
open Go.RowKit
set_option linter.unusedVariables false
set_option linter.unusedSimpArgs false
set_option maxRecDepth 100000
attribute [local go_sem ↓] Go.wp_at_zero Go.wp_at_succ

theorem okF_left {a N l : Nat} (h2 : 2 ≤ N) (hm : N ≤ 1099511627776) (ha : a < N) (hk : a < spl N) : okF (a : Int) (N : Int) (l + 1) = okF (a : Int) (spl N : Int) l := by
  have h3 := spl_lt h2
  have h4 := spl_pos h2
  unfold okF
  simp only [Int.toNat_natCast, depD_left h2 hk]
  by_cases h : l = depD a (spl N)
  · rw [decide_eq_true (by omega), decide_eq_true (by omega)]
  · rw [decide_eq_false (by omega), decide_eq_false (by omega)]
theorem okF_right {a N l : Nat} (h2 : 2 ≤ N) (hm : N ≤ 1099511627776) (ha : a < N) (hk : ¬ a < spl N) : okF (a : Int) (N : Int) (l + 1) = okF ((a - spl N : Nat) : Int) ((N - spl N : Nat) : Int) l := by
  have h3 := spl_lt h2
  have h4 := spl_pos h2
  unfold okF
  simp only [Int.toNat_natCast, depD_right h2 hk]
  by_cases h : l = depD (a - spl N) (N - spl N)
  · rw [decide_eq_true (by omega), decide_eq_true (by omega)]
  · rw [decide_eq_false (by omega), decide_eq_false (by omega)]
/-- The document's Fold of numbers of leaves that are so great. -/
def FoldC (N : Nat) : Prop := ∀ (n : Int), n.toNat = N → ∀ (d : List Nat) (i : Int) (ds : List (List Nat)) (A : Option Addr) (m c : Nat) (w : World), d.length = 32 → (∀ b ∈ d, b < 256) → ds.length = m → Dg ds → HsAt w A ds → m ≤ c → m ≤ 1000000 →
    Calls Tryd.prog 23 #[.agg (bs d).toArray, .int .i64 i, .int .i64 n, .slice A m c] w (FoldTo w w.heap.size d i n ds)
set_option maxHeartbeats 8000000 in
theorem refFold_small (d : List Nat) (i n : Int) (ds : List (List Nat)) (A : Option Addr) (m c : Nat) (w : World) (h32 : d.length = 32) (hd : ∀ b ∈ d, b < 256) (hm : ds.length = m) (hdg : Dg ds) (hat : HsAt w A ds) (hc : m ≤ c) (hm1 : m ≤ 1000000) (hs : ¬ (2 ≤ n ∧ n ≤ 1099511627776 ∧ 0 ≤ i ∧ i < n ∧ 0 < m)) :
    Calls Tryd.prog 23 #[.agg (bs d).toArray, .int .i64 i, .int .i64 n, .slice A m c] w (FoldTo w w.heap.size d i n ds) := by
  have hz := (zero_of_info info_hash).1
  have hsz := Lib.hid (zero_of_info info_hash).2
  obtain ⟨VD, hVD, hvz, hon, hvi⟩ := hash_ok d h32
  have b1 := (Below.refl w.heap.size w).alloc (Nat.le_refl _) (.cells VD 31)
  have b2 := b1.alloc b1.size (.cells (Array.replicate 32 (.int .u8 0)) 31)
  have k1 := (Blk.new w 31 VD).alloc (.cells (Array.replicate 32 (.int .u8 0)) 31)
  have k2 := Blk.new (w.alloc (.cells VD 31)) 31 (Array.replicate 32 (.int .u8 0))
  simp only [World.size_alloc] at k2
  obtain ⟨W0, hW0⟩ : ∃ W0, (w.alloc (.cells VD 31)).alloc (.cells (Array.replicate 32 (.int .u8 0)) 31) = W0 := ⟨_, rfl⟩
  have hs0 : W0.heap.size = w.heap.size + 1 + 1 := by rw [← hW0]; simp
  rw [hW0] at b2 k1 k2
  rw [hVD]
  have HRD : Hid (W0.rangeAt w.heap.size 0 (bs d)) := Lib.hid (by rw [← hVD] at k1; exact k1.range)
  have HAT := Lib.hid (hat.next b2)
  have HB2 := Lib.hid b2; have HK2 := Lib.hid k2; have HDG := Lib.hid hdg; have HD := Lib.hid hd; have H32 := Lib.hid h32; have HS0 := Lib.hid hs0
  have HID := Lib.hid (hash_size d h32)
  have HVD := Lib.hid hVD; have HDI := Lib.hid hvi; have HDZ := Lib.hid hvz; have HDO := Lib.hid hon
  have HM := Lib.hid hm
  have hrs := Lib.hid (show (Tryd.f23).results = #[.cell 8 31, .tmp 9] from rfl)
  clear b1 b2 k1 k2 hs0 hdg hd h32 hVD hvz hon hvi hat hm
  by_cases hbad : 1 ≤ n ∧ n ≤ 1099511627776 ∧ 0 ≤ i ∧ i < n
  · obtain ⟨a, rfl⟩ : ∃ a : Nat, i = (a : Int) := ⟨i.toNat, by omega⟩
    obtain ⟨N, rfl⟩ : ∃ N : Nat, n = (N : Int) := ⟨n.toNat, by omega⟩
    obtain ⟨p1, p2, p3, p4⟩ := hbad
    have t1 : ¬ (N : Int) < 1 := by omega
    have t2 : ¬ 1099511627776 < (N : Int) := by omega
    have t3 : ¬ (a : Int) < 0 := by omega
    have t4 : ¬ (N : Int) ≤ (a : Int) := by omega
    by_cases h1 : N = 1
    · subst h1
      obtain rfl : a = 0 := by omega
      by_cases hm0 : m = 0
      · subst hm0
        have hok := okF_yes (i := (0 : Int)) (n := (1 : Int)) (m := ds.length) ⟨by omega, by omega, by omega, by omega, by rw [HM.out]; exact (depD_one 0 (by omega)).symm⟩
        have hfv : fldV d 0 1 ds = d := by unfold fldV; rw [if_pos hok]; exact foldD_one d 0 ds (by omega)
        have HOK := Lib.hid hok; have HFV := Lib.hid hfv
        clear hok hfv
        go_enter Tryd.func23, Tryd.ntmps23
        go_wp2_with (first
          | refine wpQ_load (by rfl) 31 (.tmp 4) rfl w.heap.size 0 rfl (bs d) VD HVD.out _ HRD.out Tryd.underlying31 rfl HID.out ?_
          | (refine wpList_store_row (by rfl) (.tmp 8) (.tmp 38) (by rfl) (by rfl) (by rfl) HK2.out HDI.out (by rw [HDZ.out]; simp) HDO.out ?_))
        refine bodyPost_ret (v := .tuple #[.agg VD, .bool true]) (results_cell_slot hrs.out _ _ _ _ _ _ _ (by rfl) (HK2.out.row VD) Tryd.underlying31 rfl HDI.out) rfl ⟨by rw [HFV.out, HVD.out, HOK.out], Below.row HB2.out (by omega) _⟩
      · have HNO := Lib.hid (okF_no (i := (0 : Int)) (n := (1 : Int)) (m := ds.length) (by
          rintro ⟨_, _, _, _, h5⟩
          rw [HM.out] at h5
          exact hm0 (h5.trans (depD_one 0 (by omega)))))
        have hm0' : 0 < (m : Int) := by omega
        go_enter Tryd.func23, Tryd.ntmps23
        go_wp2_with (refine wpList_store_row (cs' := Array.replicate 32 (.int .u8 0)) (by rfl) (.tmp 8) (.tmp 37) (by rfl) (by rfl) (by rfl) HK2.out (by simpa using hsz.out) (by simp) z32_all ?_)
        refine bodyPost_ret (v := .tuple #[.agg (Array.replicate 32 (.int .u8 0)), .bool false]) (results_cell_slot hrs.out _ _ _ _ _ _ _ (by rfl) (HK2.out.row (Array.replicate 32 (.int .u8 0))) Tryd.underlying31 rfl (by simpa using hsz.out)) rfl (FoldTo.no HNO.out (Below.row HB2.out (by omega) _))
    · have h2 : 2 ≤ N := by omega
      have hn1 : ¬ (N : Int) = 1 := by omega
      by_cases hm0 : m = 0
      · subst hm0
        have HNO := Lib.hid (okF_no (i := (a : Int)) (n := (N : Int)) (m := ds.length) (by
          rintro ⟨_, _, _, _, h5⟩
          rw [HM.out] at h5
          simp only [Int.toNat_natCast] at h5
          by_cases hk : a < spl N
          · rw [depD_left h2 hk] at h5; omega
          · rw [depD_right h2 hk] at h5; omega))
        go_enter Tryd.func23, Tryd.ntmps23
        go_wp2_with (refine wpList_store_row (cs' := Array.replicate 32 (.int .u8 0)) (by rfl) (.tmp 8) (.tmp 42) (by rfl) (by rfl) (by rfl) HK2.out (by simpa using hsz.out) (by simp) z32_all ?_)
        refine bodyPost_ret (v := .tuple #[.agg (Array.replicate 32 (.int .u8 0)), .bool false]) (results_cell_slot hrs.out _ _ _ _ _ _ _ (by rfl) (HK2.out.row (Array.replicate 32 (.int .u8 0))) Tryd.underlying31 rfl (by simpa using hsz.out)) rfl (FoldTo.no HNO.out (Below.row HB2.out (by omega) _))
      · exact absurd ⟨by omega, by omega, by omega, by omega, by omega⟩ hs
  · have HNO := Lib.hid (okF_no (i := i) (n := n) (m := ds.length) (by omega))
    have hcase : n < 1 ∨ (¬ n < 1 ∧ 1099511627776 < n) ∨ (¬ n < 1 ∧ ¬ 1099511627776 < n ∧ i < 0) ∨ (¬ n < 1 ∧ ¬ 1099511627776 < n ∧ ¬ i < 0 ∧ n ≤ i) := by omega
    clear hbad
    rcases hcase with t1 | ⟨t1, t2⟩ | ⟨t1, t2, t3⟩ | ⟨t1, t2, t3, t4⟩
    all_goals
      go_enter Tryd.func23, Tryd.ntmps23
      go_wp2_with (refine wpList_store_row (cs' := Array.replicate 32 (.int .u8 0)) (by rfl) (.tmp 8) (.tmp 31) (by rfl) (by rfl) (by rfl) HK2.out (by simpa using hsz.out) (by simp) z32_all ?_)
      refine bodyPost_ret (v := .tuple #[.agg (Array.replicate 32 (.int .u8 0)), .bool false]) (results_cell_slot hrs.out _ _ _ _ _ _ _ (by rfl) (HK2.out.row (Array.replicate 32 (.int .u8 0))) Tryd.underlying31 rfl (by simpa using hsz.out)) rfl (FoldTo.no HNO.out (Below.row HB2.out (by omega) _))
end Go.Proofs.YtkopoepoinkpeaaDoor
