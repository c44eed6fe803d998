/- Contract of package tree's digests: the digests of leaves, in new memory. No condition. -/
import Derived.Test.YtfpbijnlmlaloaaDoorJ14
import Derived.Test.YtfpbijnlmlaloaaDoorTrLeaf
namespace Go.Proofs.YtfpbijnlmlaloaaDoor
open Go.RowKit
set_option linter.unusedVariables false
set_option linter.unusedSimpArgs false
set_option maxRecDepth 100000

theorem Dg.leaves (ls : List (List Nat)) : Dg (ls.map leafD) := fun d hd => by
  obtain ⟨x, _, rfl⟩ := List.mem_map.1 hd
  exact ⟨leafD_len x, shaN_lt _⟩
set_option maxHeartbeats 2000000 in
theorem digests_any (A : Option Addr) (n c : Nat) (ls : List (List Nat)) (w : World) (hn : ls.length = n) (hn2 : n ≤ 1000000) (hp : LC w A ls) (hbt : ∀ l ∈ ls, ∀ b ∈ l, b < 256) (hlong : ∀ l ∈ ls, l.length ≤ 4294960000) (ht : ShTab w) :
    Calls Tryd.prog 25 #[.slice A n c] w fun e w' => e = .returned (.slice (some ⟨w.heap.size, 0, none⟩) n n) ∧ Blk w' w.heap.size 33 (bs (ls.map leafD).flatten).toArray ∧ Below w.heap.size w w' := by
  obtain ⟨i, hi, hz0, hz1, hz2⟩ := info_parts info_hashB
  have hsz := Lib.hid (zero_of_info info_hash).2
  have hmk := fun W : World => run_make (P := Tryd.prog) W 25 33 i _ Tryd.underlying25 hi hz0 .i64 .i64 n n (by omega) (by omega) (by rw [hz2]; omega) (by omega)
  rw [hz1] at hmk
  have hdg := Dg.leaves ls
  have hfl : (ls.map leafD).flatten.length = n * 32 := by rw [hdg.len, List.length_map, hn]
  have hbl : (bs (ls.map leafD).flatten).length = n * 32 := by rw [bs_length, hfl]
  obtain ⟨xs, hxs⟩ : ∃ xs, bs (ls.map leafD).flatten = xs := ⟨_, rfl⟩
  have hat : ∀ i l, ls[i]? = some l → ∀ j v, (bs (leafD l))[j]? = some v → xs[i * 32 + j]? = some v := fun i l hl j v hv => by
    have hj : j < 32 := by have := (List.getElem?_eq_some_iff.1 hv).1; rw [bs_length, leafD_len] at this; exact this
    have h1 : (ls.map leafD)[i]? = some (leafD l) := by rw [List.getElem?_map, hl]; rfl
    rw [← hxs]
    unfold bs at hv ⊢
    rw [List.getElem?_map] at hv ⊢
    rw [hdg.at_ h1 hj]
    exact hv
  rw [hxs] at hbl ⊢
  have hz3 : madeCells (Value.cells (.agg (Array.replicate 32 (.int .u8 0)))) (n * 32) = fillW xs (.int .u8 0) (0 * 32) := by rw [show Value.cells (.agg (Array.replicate 32 (.int .u8 0))) = Array.replicate 32 (.int .u8 0) from rfl, made_rep _ _ _ (by omega), Nat.zero_mul, fillW_none, hbl]
  rw [Int.toNat_natCast, hz3] at hmk
  have K0 := Blk.new w 33 (fillW xs (.int .u8 0) (0 * 32))
  have B0 := (Below.refl w.heap.size w).alloc (Nat.le_refl _) (.cells (fillW xs (.int .u8 0) (0 * 32)) 33)
  obtain ⟨w1, hw1⟩ : ∃ w1, w.alloc (.cells (fillW xs (.int .u8 0) (0 * 32)) 33) = w1 := ⟨_, rfl⟩
  have hmk1 := hmk w
  rw [hw1] at K0 B0 hmk1
  have HP := Lib.hid hp; have HBT := Lib.hid hbt; have HLG := Lib.hid hlong; have HT := Lib.hid ht; have HAT := Lib.hid hat; have HBL := Lib.hid hbl; have HNN := Lib.hid hn; have HK0 := Lib.hid K0; have HB0 := Lib.hid B0
  clear hp hbt hlong ht hat hbl hn K0 B0 hz3 hfl hdg hmk hxs hw1
  go_enter Tryd.func25, Tryd.ntmps25
  go_wp2_with fail
  go_loopg [4, 5, 11] n (fun gk s4 s5 s11 wr => ∃ i : Nat, i + gk = n ∧ s11 = .int .i64 (i : Int) ∧ Hid (Blk wr w.heap.size 33 (fillW xs (.int .u8 0) (i * 32))) ∧ Hid (Below w.heap.size w wr))
  case atStart => exact ⟨0, by omega, rfl, HK0, HB0⟩
  case round =>
    obtain ⟨i, hig, rfl, hk, hb⟩ := hrel
    clear HK0 HB0
    cases gk with
    | zero =>
      obtain rfl : i = n := by omega
      clear hig
      have hin : ¬ (i : Int) < (i : Int) := by omega
      go_wp2_with fail
      go_ret
      refine ⟨rfl, ?_, hb.out⟩
      have := hk.out
      rwa [fillW_all _ _ _ HBL.out] at this
    | succ gk =>
      have hin2 : i < n := by omega
      have hii : (i : Int) < (n : Int) := by omega
      obtain ⟨l, hl⟩ : ∃ l, ls[i]? = some l := ⟨_, List.getElem?_eq_getElem (by rw [HNN.out]; exact hin2)⟩
      obtain ⟨ad, u, hA, hcell, Ap, cp, hu, hcp, hrp⟩ := HP.out.at_ hl
      subst hA hu
      have hlt : (ad.add i).block < w.heap.size := World.block_lt_of_cell? w _ hcell
      have hcr : wr.cell? (ad.add i) = some (.slice Ap l.length cp) := (hb.out.cell hlt).trans hcell
      have HC := Lib.hid (leaf_any Ap l.length cp l wr ((hrp.below hb.out).more hb.out.size) (HBT.out l (List.mem_of_getElem? hl)) hcp (HLG.out l (List.mem_of_getElem? hl)) (HT.out.next hb.out))
      have HS := Lib.hid (HAT.out i l hl)
      clear hcell hrp hl
      go_wp2_with fail
      refine HC.out.mono ?_
      rintro _ w2 ⟨rfl, hb2⟩
      have hgw : w.heap.size < wr.heap.size := hk.out.lt
      have K2 := hk.out.below hb2 hgw
      have B2 := hb.out.trans (hb2.mono hb.out.size)
      have hll : (bs (leafD l)).length = 32 := by rw [bs_length, leafD_len]
      have hth := Lib.hid (Blk.there K2 (o := i * 32) (n := (bs (leafD l)).toArray.size) (by simp [fillW, HBL.out, hll]; omega))
      have hiz := Lib.hid (show (Tryd.prog.info? 33).map (·.size) = some (bs (leafD l)).toArray.size by rw [List.size_toArray, hll]; exact hsz.out)
      have hon := Lib.hid (all_oneCell_toArray (bs_one (leafD l)))
      have K3 := Lib.hid (trFill (bs (leafD l)) (i * 32) K2 HS.out)
      have B3 := Lib.hid (B2.grown (only_setCells (bs (leafD l)) (i * 32) (World.grownBy.refl w2 (some w.heap.size))) (Nat.le_trans B2.size (Nat.le_refl _)) (fun k hk => by injection hk with hk; omega))
      clear K2 B2 hb2 
      obtain ⟨V, hV⟩ : ∃ V : Array Value, (bs (leafD l)).toArray = V := ⟨_, rfl⟩
      rw [hll] at K3
      have K4 : Hid (Blk (w2.setCells w.heap.size (i * 32) V.toList) w.heap.size 33 (fillW xs (.int .u8 0) ((i + 1) * 32))) := Lib.hid (by rw [← hV, show (i + 1) * 32 = i * 32 + 32 by omega]; exact K3.out)
      have B4 : Hid (Below w.heap.size w (w2.setCells w.heap.size (i * 32) V.toList)) := Lib.hid (by rw [← hV]; exact B3.out)
      rw [hV] at hth hiz hon ⊢
      clear hV K3 B3 hll
      go_wp2_with (refine wpList_store_mid (by rfl) 33 (.tmp 20) (.tmp 19) (by rfl) w.heap.size (i * 32) V (by rfl) (by rfl) hth.out hiz.out hon.out ?_)
      go_roundg gk
      case measure => omega
      case rel => exact ⟨i + 1, by omega, by go_num, K4, B4⟩
end Go.Proofs.YtfpbijnlmlaloaaDoor
