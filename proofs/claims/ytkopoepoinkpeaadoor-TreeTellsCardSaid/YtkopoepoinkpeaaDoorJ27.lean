/- Texts joined: TrRoot Laid TrAwake. -/
import Derived.Test.YtkopoepoinkpeaaDoorTrRootOf
import Derived.Test.YtkopoepoinkpeaaDoorWords
import Derived.Lib.SlBytesConst
/- Contract of package tree's Root. No condition. -/
namespace Go.Proofs.YtkopoepoinkpeaaDoor
open Go.RowKit
set_option linter.unusedVariables false
set_option linter.unusedSimpArgs false
set_option maxRecDepth 100000

theorem HsAt.blk {w : World} {g : Nat} {t : TypeId} {ds : List (List Nat)} (h : Blk w g t (bs ds.flatten).toArray) (hd : Dg ds) : HsAt w (some ⟨g, 0, none⟩) ds := by
  refine ⟨by rw [bs_length, hd.len], fun _ => ⟨_, rfl, h.lt, fun j u hu => ?_⟩⟩
  rw [plain_add, Nat.zero_add, h.cell]
  simpa using hu
set_option maxHeartbeats 2000000 in
theorem root_any (A : Option Addr) (n c : Nat) (ls : List (List Nat)) (w : World) (hn : ls.length = n) (hn2 : n ≤ 1000000) (hp : LC w A ls) (hbt : ∀ l ∈ ls, ∀ b ∈ l, b < 256) (hlong : ∀ l ∈ ls, l.length ≤ 4294960000) (ht : ShTab w) :
    Calls Tryd.prog 12 #[.slice A n c] w (HashTo w w.heap.size (rootL ls)) := by
  have hz := (zero_of_info info_hash).1
  have hsz := Lib.hid (zero_of_info info_hash).2
  have hR1 := Blk.new w 31 (Array.replicate 32 (.int .u8 0))
  have hb1 : Below w.heap.size w (w.alloc (.cells (Array.replicate 32 (.int .u8 0)) 31)) := (Below.refl _ _).alloc (Nat.le_refl _) _
  obtain ⟨w1, hw1⟩ : ∃ w1 : World, w.alloc (.cells (Array.replicate 32 (.int .u8 0)) 31) = w1 := ⟨_, rfl⟩
  have hs1 : w1.heap.size = w.heap.size + 1 := by rw [← hw1]; simp
  rw [hw1] at hR1 hb1
  have HT := Lib.hid (ht.next hb1)
  have HRES := Lib.hid hR1; have HB1 := Lib.hid hb1; have HS1 := Lib.hid hs1
  have h32 := rootL_len ls
  obtain ⟨V, hV, hvz, hon, hvi⟩ := hash_ok (rootL ls) h32
  have HV := Lib.hid hV; have HVZ := Lib.hid hvz; have HON := Lib.hid hon; have HVI := Lib.hid hvi
  clear hV hvz hon hvi h32 hR1 hs1 ht
  by_cases h0 : n = 0
  · subst h0
    obtain rfl : ls = [] := List.eq_nil_of_length_eq_zero hn
    have HC := Lib.hid (sumS_any none 0 0 [] w1 Reads.none_ (by simp) (Nat.le_refl _) (by omega) HT.out)
    clear hn hp hbt hlong hb1
    go_enter Tryd.func12, Tryd.ntmps12
    go_wp2_with fail
    refine HC.out.mono ?_
    rintro _ w2 ⟨rfl, hb2⟩
    have e1 : (bs (shaN [])).toArray = V := HV.out
    rw [e1]
    have HK := Lib.hid (HRES.out.below hb2 HRES.out.lt)
    have HB := Lib.hid (HB1.out.trans (hb2.mono HB1.out.size))
    clear e1 hb2
    go_wp2_with (refine wpList_store_row (by rfl) (.tmp 2) (.tmp 6) (by rfl) (by rfl) (by rfl) HK.out HVI.out (by rw [HVZ.out]; simp) HON.out ?_)
    refine bodyPost_ret (v := .agg V) (results_cell_row rfl _ _ _ _ _ _ _ (by rfl) (HK.out.row V) Tryd.underlying31 rfl HVI.out) rfl ⟨by rw [HV.out], Below.row HB.out (Nat.le_refl _) _⟩
  · have HC := Lib.hid (digests_any A n c ls w1 hn hn2 (hp.next hb1) hbt hlong HT.out)
    have hrl : rootL ls = rootD (ls.map leafD) := by unfold rootL; rw [if_neg (by omega)]
    have HRL := Lib.hid hrl
    have HLM := Lib.hid (show (ls.map leafD).length = n by rw [List.length_map]; exact hn)
    clear hn hp hbt hlong hb1 hrl
    have h0' : ¬ (n : Int) = 0 := by omega
    go_enter Tryd.func12, Tryd.ntmps12
    go_wp2_with fail
    refine HC.out.mono ?_
    rintro _ w2 ⟨rfl, hk2, hb2⟩
    have HC2 := Lib.hid (rootOf_any n (ls.map leafD) w1.heap.size 0 n w2 HLM.out (by omega) hn2 (Dg.leaves ls) (HsAt.blk hk2 (Dg.leaves ls)) (Nat.le_refl _) (HT.out.next hb2))
    have HB12 := Lib.hid hb2
    clear hk2 hb2
    go_wp2_with fail
    refine HC2.out.mono ?_
    rintro _ w3 ⟨rfl, hb3⟩
    have e1 : (bs (rootD (ls.map leafD))).toArray = V := by rw [← HV.out, HRL.out]
    rw [e1]
    have hb13 := HB12.out.trans (hb3.mono HB12.out.size)
    have HK := Lib.hid (HRES.out.below hb13 HRES.out.lt)
    have HB := Lib.hid (HB1.out.trans (hb13.mono HB1.out.size))
    clear e1 hb3 hb13
    go_wp2_with (refine wpList_store_row (by rfl) (.tmp 2) (.tmp 9) (by rfl) (by rfl) (by rfl) HK.out HVI.out (by rw [HVZ.out]; simp) HON.out ?_)
    refine bodyPost_ret (v := .agg V) (results_cell_row rfl _ _ _ _ _ _ _ (by rfl) (HK.out.row V) Tryd.underlying31 rfl HVI.out) rfl ⟨by rw [HV.out], Below.row HB.out (Nat.le_refl _) _⟩
end Go.Proofs.YtkopoepoinkpeaaDoor

/- A row that was laid last reads as its cells, whatever is frozen of it. No program. -/
namespace Go.Proofs.YtkopoepoinkpeaaDoor
open Go.RowKit

/-- A row that was laid last reads as its cells, whatever is frozen of it. -/
theorem reads_laid (w : World) (cs : Array Value) (t : TypeId) (fr : Nat × Nat) (B n : Nat) (xs : List Value) (hB : w.heap.size < B) (hn : xs.length = n) (hx : cs.toList.take n = xs) :
    Reads (w.alloc (.cells cs t fr)) B 1 (some ⟨w.heap.size, 0, none⟩) n xs := by
  refine ⟨by omega, fun _ => ⟨_, rfl, hB, fun j u hu => ?_⟩⟩
  rw [plain_add, Nat.zero_add, cell_of_row _ _ j cs t fr (heap_alloc_new w _)]
  subst hx
  rw [List.getElem?_take] at hu
  split at hu
  · simpa using hu
  · cases hu
end Go.Proofs.YtkopoepoinkpeaaDoor

/- Contract of the statements' awake: the document's example holds; it answers true. -/
namespace Go.Proofs.YtkopoepoinkpeaaDoor
open Go.RowKit
set_option linter.unusedVariables false
set_option linter.unusedSimpArgs false
set_option maxRecDepth 100000

theorem spl_two : spl 2 = 1 := spl_is (e := 0) (by decide) (by decide)
theorem spl_three : spl 3 = 2 := spl_is (e := 1) (by decide) (by decide)
theorem root_abc (a b c : List Nat) : rootL [a, b, c] = nodeD (nodeD (leafD a) (leafD b)) (leafD c) := by
  rw [rootL_two (by simp), show [a, b, c].length = 3 from rfl, spl_three, show [a, b, c].take 2 = [a, b] from rfl, show [a, b, c].drop 2 = [c] from rfl, rootL_one, rootL_two (l := [a, b]) (by simp), show [a, b].length = 2 from rfl, spl_two, show [a, b].take 1 = [a] from rfl, show [a, b].drop 1 = [b] from rfl, rootL_one, rootL_one]
theorem leaf_unlike : leafD [97] ≠ leafD [98] := by decide +kernel
theorem eqlD (w : World) (l m : List Nat) (hl : l.length = 32) (hm : m.length = 32) : (binOp .eql 31 (.agg (bs l).toArray) (.agg (bs m).toArray)).run Tryd.prog w = .ok (.bool (decide (l = m))) w := eql_hash w l m hl hm
set_option maxHeartbeats 2000000 in
theorem awake19_any (w : World) (ht : ShTab w) : Calls Tryd.prog 8 #[] w fun e w' => e = .returned (.bool true) ∧ Below w.heap.size w w' := by
  have b1 := (Below.refl w.heap.size w).alloc (Nat.le_refl _) (.cells #[.int .u8 97] 5 (1, 2))
  have b2 := b1.alloc b1.size (.cells #[.int .u8 98] 5 (1, 2))
  have b3 := b2.alloc b2.size (.cells #[.int .u8 99] 5 (1, 2))
  have lay : ∀ (W : World) (a : Nat), IsC (W.alloc (.cells #[.int .u8 (a : Int)] 5 (1, 2))) (.slice (some ⟨W.heap.size, 0, none⟩) 1 1) [a] := fun W a => ⟨_, _, rfl, Nat.le_refl _, reads_laid W _ _ _ _ _ _ (by simp) (by simp [bs]) (by simp [bs])⟩
  have i1 := ((lay w 97).next ((Below.refl _ _).alloc (Nat.le_refl _) (.cells #[.int .u8 98] 5 (1, 2)))).next ((Below.refl _ _).alloc (Nat.le_refl _) (.cells #[.int .u8 99] 5 (1, 2)))
  have i2 := (lay (w.alloc (.cells #[.int .u8 97] 5 (1, 2))) 98).next ((Below.refl _ _).alloc (Nat.le_refl _) (.cells #[.int .u8 99] 5 (1, 2)))
  have i3 := lay ((w.alloc (.cells #[.int .u8 97] 5 (1, 2))).alloc (.cells #[.int .u8 98] 5 (1, 2))) 99
  simp only [World.size_alloc] at i2 i3
  have hcv := fun (W : World) (a : Int) => Lib.run_convert_bytes_const (P := Tryd.prog) W 37 5 #[.int .u8 a] 1 1 Tryd.underlying37 Tryd.underlying5
  simp only [List.size_toArray, List.length_cons, List.length_nil, Nat.zero_add, Nat.reduceAdd] at hcv
  have hcv2 := hcv (w.alloc (.cells #[.int .u8 97] 5 (1, 2))) 98
  have hcv3 := hcv ((w.alloc (.cells #[.int .u8 97] 5 (1, 2))).alloc (.cells #[.int .u8 98] 5 (1, 2))) 99
  simp only [World.size_alloc] at hcv2 hcv3
  obtain ⟨W3, hW3⟩ : ∃ W3, ((w.alloc (.cells #[.int .u8 97] 5 (1, 2))).alloc (.cells #[.int .u8 98] 5 (1, 2))).alloc (.cells #[.int .u8 99] 5 (1, 2)) = W3 := ⟨_, rfl⟩
  have hs3 : W3.heap.size = w.heap.size + 1 + 1 + 1 := by rw [← hW3]; simp
  have i1 : IsC W3 (.slice (some ⟨w.heap.size, 0, none⟩) 1 1) [97] := by rw [← hW3]; exact i1
  have i2 : IsC W3 (.slice (some ⟨w.heap.size + 1, 0, none⟩) 1 1) [98] := by rw [← hW3]; exact i2
  have i3 : IsC W3 (.slice (some ⟨w.heap.size + 1 + 1, 0, none⟩) 1 1) [99] := by rw [← hW3]; exact i3
  rw [hW3] at b3
  have hlc := LC.laid (t := 37) (vs := [.slice (some ⟨w.heap.size, 0, none⟩) 1 1, .slice (some ⟨w.heap.size + 1, 0, none⟩) 1 1, .slice (some ⟨w.heap.size + 1 + 1, 0, none⟩) 1 1]) (ls := [[97], [98], [99]]) (w := W3) ⟨i1, i2, i3, trivial⟩ (by simp)
  have b4 : Below w.heap.size w (W3.alloc (.cells #[.slice (some ⟨w.heap.size, 0, none⟩) 1 1, .slice (some ⟨w.heap.size + 1, 0, none⟩) 1 1, .slice (some ⟨w.heap.size + 1 + 1, 0, none⟩) 1 1] 37)) := b3.alloc b3.size _
  have HC := Lib.hid (root_any (some ⟨W3.heap.size, 0, none⟩) 3 3 [[97], [98], [99]] _ rfl (by omega) hlc (by decide) (by decide) (ht.next b4))
  have b43 : Below W3.heap.size W3 (W3.alloc (.cells #[.slice (some ⟨w.heap.size, 0, none⟩) 1 1, .slice (some ⟨w.heap.size + 1, 0, none⟩) 1 1, .slice (some ⟨w.heap.size + 1 + 1, 0, none⟩) 1 1] 37)) := (Below.refl _ _).alloc (Nat.le_refl _) _
  rw [root_abc] at HC
  have HL := Lib.hid fun (W : World) (hW : Below W3.heap.size W3 W) (A : Option Addr) (l : List Nat) (hi : IsC W3 (.slice A 1 1) l) (hl : l.length = 1) (hb : ∀ x ∈ l, x < 256) =>
    (show Calls Tryd.prog 19 #[.slice A 1 1] W (HashTo W W.heap.size (leafD l)) from by
      obtain ⟨A', c', e, hc, hr⟩ := hi
      injection e with e1 e2 e3
      subst e1
      rw [hl] at hr
      exact leaf_any A 1 1 l W ((hr.below hW).more hW.size) hb (Nat.le_refl _) (by omega) (ht.next (b3.trans (hW.mono b3.size))))
  have HB3 := Lib.hid b3; have HB43 := Lib.hid b43; have HI1 := Lib.hid i1; have HI2 := Lib.hid i2; have HI3 := Lib.hid i3; have HT := Lib.hid ht
  clear b1 b2 b3 lay i1 i2 i3 hlc b4 b43 ht hs3
  go_enter Tryd.func8, Tryd.ntmps8
  go_wp2_with fail
  refine HC.out.mono ?_
  rintro _ w5 ⟨rfl, hb5⟩
  have HB5 := Lib.hid (HB43.out.trans (hb5.mono HB43.out.size))
  clear hb5
  go_wp2_with fail
  refine (HL.out _ HB5.out _ _ HI1.out rfl (by decide)).mono ?_
  rintro _ w6 ⟨rfl, hb6⟩
  have HB6 := Lib.hid (HB5.out.trans (hb6.mono HB5.out.size))
  clear hb6
  go_wp2_with fail
  refine (HL.out _ HB6.out _ _ HI2.out rfl (by decide)).mono ?_
  rintro _ w7 ⟨rfl, hb7⟩
  have HB7 := Lib.hid (HB6.out.trans (hb7.mono HB6.out.size))
  clear hb7
  go_wp2_with fail
  have hn1 : (nodeD (leafD [97]) (leafD [98])).length = 32 := nodeD_len _ _
  have HT7 := Lib.hid (HT.out.next (HB3.out.trans (HB7.out.mono HB3.out.size)))
  refine (node_any (leafD [97]) (leafD [98]) w7 (leafD_len _) (leafD_len _) (shaN_lt _) (shaN_lt _) HT7.out).mono ?_
  rintro _ w8 ⟨rfl, hb8⟩
  have HB8 := Lib.hid (HB7.out.trans (hb8.mono HB7.out.size))
  clear hb8
  go_wp2_with fail
  refine (HL.out _ HB8.out _ _ HI3.out rfl (by decide)).mono ?_
  rintro _ w9 ⟨rfl, hb9⟩
  have HB9 := Lib.hid (HB8.out.trans (hb9.mono HB8.out.size))
  clear hb9
  go_wp2_with fail
  refine (node_any (nodeD (leafD [97]) (leafD [98])) (leafD [99]) w9 (nodeD_len _ _) (leafD_len _) (shaN_lt _) (shaN_lt _) (HT.out.next (HB3.out.trans (HB9.out.mono HB3.out.size)))).mono ?_
  rintro _ w10 ⟨rfl, hb10⟩
  have HB10 := Lib.hid (HB9.out.trans (hb10.mono HB9.out.size))
  have HE := Lib.hid fun W => eqlD W (nodeD (nodeD (leafD [97]) (leafD [98])) (leafD [99])) (nodeD (nodeD (leafD [97]) (leafD [98])) (leafD [99])) (nodeD_len _ _) (nodeD_len _ _)
  have hdt : decide (nodeD (nodeD (leafD [97]) (leafD [98])) (leafD [99]) = nodeD (nodeD (leafD [97]) (leafD [98])) (leafD [99])) = true := by simp
  rw [hdt] at HE
  clear hb10 hdt
  go_wp2_with (refine wpList_bin (by rfl) .eql 31 _ (.tmp 14) (.tmp 22) rfl _ _ rfl rfl hash_guard _ HE.out ?_)
  refine (HL.out _ HB10.out _ _ HI1.out rfl (by decide)).mono ?_
  rintro _ w11 ⟨rfl, hb11⟩
  have HB11 := Lib.hid (HB10.out.trans (hb11.mono HB10.out.size))
  clear hb11
  go_wp2_with fail
  refine (HL.out _ HB11.out _ _ HI2.out rfl (by decide)).mono ?_
  rintro _ w12 ⟨rfl, hb12⟩
  have HB12 := Lib.hid (HB11.out.trans (hb12.mono HB11.out.size))
  have HF := Lib.hid fun W => neqD W (leafD [97]) (leafD [98]) (leafD_len _) (leafD_len _)
  have hdf : (!decide (leafD [97] = leafD [98])) = true := by simp [leaf_unlike]
  rw [hdf] at HF
  clear hb12 hdf
  go_wp2_with (refine wpList_binw (by rfl) .neq 31 _ (.tmp 26) (.tmp 28) rfl _ _ rfl rfl hash_guard _ HF.out ?_)
  go_ret
  exact ⟨rfl, HB3.out.trans (HB12.out.mono HB3.out.size)⟩
end Go.Proofs.YtkopoepoinkpeaaDoor
