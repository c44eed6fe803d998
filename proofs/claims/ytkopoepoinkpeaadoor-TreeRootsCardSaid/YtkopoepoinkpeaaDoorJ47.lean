/- Texts joined: TrAwake TrGreat. -/
import Derived.Lib.SlBytesConst
import Derived.Test.YtkopoepoinkpeaaDoorTrRoot
import Derived.Test.YtkopoepoinkpeaaDoorJ46
import Derived.Test.YtkopoepoinkpeaaDoorJ9
/- Contract of the statements' awake: the document's example holds; it answers true. -/
namespace Go.Proofs.YtkopoepoinkpeaaDoor
open Go.RowKit
set_option linter.unusedVariables false
set_option linter.unusedSimpArgs false
set_option maxRecDepth 100000

theorem spl_two : spl 2 = 1 := spl_is (e := 0) (by decide) (by decide)
theorem spl_three : spl 3 = 2 := spl_is (e := 1) (by decide) (by decide)
theorem root_abc (a b c : List Nat) : rootL [a, b, c] = nodeD (nodeD (leafD a) (leafD b)) (leafD c) := by
  rw [rootL_two (by simp), show [a, b, c].length = 3 from rfl, spl_three, show [a, b, c].take 2 = [a, b] from rfl, show [a, b, c].drop 2 = [c] from rfl, rootL_one, rootL_two (l := [a, b]) (by simp), show [a, b].length = 2 from rfl, spl_two, show [a, b].take 1 = [a] from rfl, show [a, b].drop 1 = [b] from rfl, rootL_one, rootL_one]
theorem leaf_unlike : leafD [97] ≠ leafD [98] := by decide +kernel
theorem eqlD (w : World) (l m : List Nat) (hl : l.length = 32) (hm : m.length = 32) : (binOp .eql 31 (.agg (bs l).toArray) (.agg (bs m).toArray)).run Tryd.prog w = .ok (.bool (decide (l = m))) w := eql_hash w l m hl hm
set_option maxHeartbeats 2000000 in
theorem awake19_any (w : World) (ht : ShTab w) : Calls Tryd.prog 8 #[] w fun e w' => e = .returned (.bool true) ∧ Below w.heap.size w w' := by
  have b1 := (Below.refl w.heap.size w).alloc (Nat.le_refl _) (.cells #[.int .u8 97] 5 (1, 2))
  have b2 := b1.alloc b1.size (.cells #[.int .u8 98] 5 (1, 2))
  have b3 := b2.alloc b2.size (.cells #[.int .u8 99] 5 (1, 2))
  have lay : ∀ (W : World) (a : Nat), IsC (W.alloc (.cells #[.int .u8 (a : Int)] 5 (1, 2))) (.slice (some ⟨W.heap.size, 0, none⟩) 1 1) [a] := fun W a => ⟨_, _, rfl, Nat.le_refl _, reads_laid W _ _ _ _ _ _ (by simp) (by simp [bs]) (by simp [bs])⟩
  have i1 := ((lay w 97).next ((Below.refl _ _).alloc (Nat.le_refl _) (.cells #[.int .u8 98] 5 (1, 2)))).next ((Below.refl _ _).alloc (Nat.le_refl _) (.cells #[.int .u8 99] 5 (1, 2)))
  have i2 := (lay (w.alloc (.cells #[.int .u8 97] 5 (1, 2))) 98).next ((Below.refl _ _).alloc (Nat.le_refl _) (.cells #[.int .u8 99] 5 (1, 2)))
  have i3 := lay ((w.alloc (.cells #[.int .u8 97] 5 (1, 2))).alloc (.cells #[.int .u8 98] 5 (1, 2))) 99
  simp only [World.size_alloc] at i2 i3
  have hcv := fun (W : World) (a : Int) => Lib.run_convert_bytes_const (P := Tryd.prog) W 37 5 #[.int .u8 a] 1 1 Tryd.underlying37 Tryd.underlying5
  simp only [List.size_toArray, List.length_cons, List.length_nil, Nat.zero_add, Nat.reduceAdd] at hcv
  have hcv2 := hcv (w.alloc (.cells #[.int .u8 97] 5 (1, 2))) 98
  have hcv3 := hcv ((w.alloc (.cells #[.int .u8 97] 5 (1, 2))).alloc (.cells #[.int .u8 98] 5 (1, 2))) 99
  simp only [World.size_alloc] at hcv2 hcv3
  obtain ⟨W3, hW3⟩ : ∃ W3, ((w.alloc (.cells #[.int .u8 97] 5 (1, 2))).alloc (.cells #[.int .u8 98] 5 (1, 2))).alloc (.cells #[.int .u8 99] 5 (1, 2)) = W3 := ⟨_, rfl⟩
  have hs3 : W3.heap.size = w.heap.size + 1 + 1 + 1 := by rw [← hW3]; simp
  have i1 : IsC W3 (.slice (some ⟨w.heap.size, 0, none⟩) 1 1) [97] := by rw [← hW3]; exact i1
  have i2 : IsC W3 (.slice (some ⟨w.heap.size + 1, 0, none⟩) 1 1) [98] := by rw [← hW3]; exact i2
  have i3 : IsC W3 (.slice (some ⟨w.heap.size + 1 + 1, 0, none⟩) 1 1) [99] := by rw [← hW3]; exact i3
  rw [hW3] at b3
  have hlc := LC.laid (t := 37) (vs := [.slice (some ⟨w.heap.size, 0, none⟩) 1 1, .slice (some ⟨w.heap.size + 1, 0, none⟩) 1 1, .slice (some ⟨w.heap.size + 1 + 1, 0, none⟩) 1 1]) (ls := [[97], [98], [99]]) (w := W3) ⟨i1, i2, i3, trivial⟩ (by simp)
  have b4 : Below w.heap.size w (W3.alloc (.cells #[.slice (some ⟨w.heap.size, 0, none⟩) 1 1, .slice (some ⟨w.heap.size + 1, 0, none⟩) 1 1, .slice (some ⟨w.heap.size + 1 + 1, 0, none⟩) 1 1] 37)) := b3.alloc b3.size _
  have HC := Lib.hid (root_any (some ⟨W3.heap.size, 0, none⟩) 3 3 [[97], [98], [99]] _ rfl (by omega) hlc (by decide) (by decide) (ht.next b4))
  have b43 : Below W3.heap.size W3 (W3.alloc (.cells #[.slice (some ⟨w.heap.size, 0, none⟩) 1 1, .slice (some ⟨w.heap.size + 1, 0, none⟩) 1 1, .slice (some ⟨w.heap.size + 1 + 1, 0, none⟩) 1 1] 37)) := (Below.refl _ _).alloc (Nat.le_refl _) _
  rw [root_abc] at HC
  have HL := Lib.hid fun (W : World) (hW : Below W3.heap.size W3 W) (A : Option Addr) (l : List Nat) (hi : IsC W3 (.slice A 1 1) l) (hl : l.length = 1) (hb : ∀ x ∈ l, x < 256) =>
    (show Calls Tryd.prog 19 #[.slice A 1 1] W (HashTo W W.heap.size (leafD l)) from by
      obtain ⟨A', c', e, hc, hr⟩ := hi
      injection e with e1 e2 e3
      subst e1
      rw [hl] at hr
      exact leaf_any A 1 1 l W ((hr.below hW).more hW.size) hb (Nat.le_refl _) (by omega) (ht.next (b3.trans (hW.mono b3.size))))
  have HB3 := Lib.hid b3; have HB43 := Lib.hid b43; have HI1 := Lib.hid i1; have HI2 := Lib.hid i2; have HI3 := Lib.hid i3; have HT := Lib.hid ht
  clear b1 b2 b3 lay i1 i2 i3 hlc b4 b43 ht hs3
  go_enter Tryd.func8, Tryd.ntmps8
  go_wp2_with fail
  refine HC.out.mono ?_
  rintro _ w5 ⟨rfl, hb5⟩
  have HB5 := Lib.hid (HB43.out.trans (hb5.mono HB43.out.size))
  clear hb5
  go_wp2_with fail
  refine (HL.out _ HB5.out _ _ HI1.out rfl (by decide)).mono ?_
  rintro _ w6 ⟨rfl, hb6⟩
  have HB6 := Lib.hid (HB5.out.trans (hb6.mono HB5.out.size))
  clear hb6
  go_wp2_with fail
  refine (HL.out _ HB6.out _ _ HI2.out rfl (by decide)).mono ?_
  rintro _ w7 ⟨rfl, hb7⟩
  have HB7 := Lib.hid (HB6.out.trans (hb7.mono HB6.out.size))
  clear hb7
  go_wp2_with fail
  have hn1 : (nodeD (leafD [97]) (leafD [98])).length = 32 := nodeD_len _ _
  have HT7 := Lib.hid (HT.out.next (HB3.out.trans (HB7.out.mono HB3.out.size)))
  refine (node_any (leafD [97]) (leafD [98]) w7 (leafD_len _) (leafD_len _) (shaN_lt _) (shaN_lt _) HT7.out).mono ?_
  rintro _ w8 ⟨rfl, hb8⟩
  have HB8 := Lib.hid (HB7.out.trans (hb8.mono HB7.out.size))
  clear hb8
  go_wp2_with fail
  refine (HL.out _ HB8.out _ _ HI3.out rfl (by decide)).mono ?_
  rintro _ w9 ⟨rfl, hb9⟩
  have HB9 := Lib.hid (HB8.out.trans (hb9.mono HB8.out.size))
  clear hb9
  go_wp2_with fail
  refine (node_any (nodeD (leafD [97]) (leafD [98])) (leafD [99]) w9 (nodeD_len _ _) (leafD_len _) (shaN_lt _) (shaN_lt _) (HT.out.next (HB3.out.trans (HB9.out.mono HB3.out.size)))).mono ?_
  rintro _ w10 ⟨rfl, hb10⟩
  have HB10 := Lib.hid (HB9.out.trans (hb10.mono HB9.out.size))
  have HE := Lib.hid fun W => eqlD W (nodeD (nodeD (leafD [97]) (leafD [98])) (leafD [99])) (nodeD (nodeD (leafD [97]) (leafD [98])) (leafD [99])) (nodeD_len _ _) (nodeD_len _ _)
  have hdt : decide (nodeD (nodeD (leafD [97]) (leafD [98])) (leafD [99]) = nodeD (nodeD (leafD [97]) (leafD [98])) (leafD [99])) = true := by simp
  rw [hdt] at HE
  clear hb10 hdt
  go_wp2_with (refine wpList_bin (by rfl) .eql 31 _ (.tmp 14) (.tmp 22) rfl _ _ rfl rfl hash_guard _ HE.out ?_)
  refine (HL.out _ HB10.out _ _ HI1.out rfl (by decide)).mono ?_
  rintro _ w11 ⟨rfl, hb11⟩
  have HB11 := Lib.hid (HB10.out.trans (hb11.mono HB10.out.size))
  clear hb11
  go_wp2_with fail
  refine (HL.out _ HB11.out _ _ HI2.out rfl (by decide)).mono ?_
  rintro _ w12 ⟨rfl, hb12⟩
  have HB12 := Lib.hid (HB11.out.trans (hb12.mono HB11.out.size))
  have HF := Lib.hid fun W => neqD W (leafD [97]) (leafD [98]) (leafD_len _) (leafD_len _)
  have hdf : (!decide (leafD [97] = leafD [98])) = true := by simp [leaf_unlike]
  rw [hdf] at HF
  clear hb12 hdf
  go_wp2_with (refine wpList_binw (by rfl) .neq 31 _ (.tmp 26) (.tmp 28) rfl _ _ rfl rfl hash_guard _ HF.out ?_)
  go_ret
  exact ⟨rfl, HB3.out.trans (HB12.out.mono HB3.out.size)⟩
end Go.Proofs.YtkopoepoinkpeaaDoor

/- Contract of the statements' own Great over lists of byte texts: are there more, or longer ones, than are looked at? Nothing changes. -/
namespace Go.Proofs.YtkopoepoinkpeaaDoor
open Go.RowKit
set_option linter.unusedVariables false
set_option linter.unusedSimpArgs false
set_option maxRecDepth 100000

/-- More than 'm', or one of the first 'm' is longer than 'q'. -/
def grL (l : List (List Nat)) (m q : Nat) : Bool := decide (m < l.length) || (l.take m).any fun s => decide (q < s.length)
theorem grL_false {l : List (List Nat)} {m q : Nat} (h : grL l m q = false) : l.length ≤ m ∧ ∀ s ∈ l, s.length ≤ q := by
  unfold grL at h
  rw [Bool.or_eq_false_iff] at h
  obtain ⟨h1, h2⟩ := h
  have h3 : l.length ≤ m := by simpa using h1
  rw [List.take_of_length_le h3] at h2
  refine ⟨h3, fun s hs => ?_⟩
  have := List.any_eq_false.1 h2 s hs
  simpa using this
set_option maxHeartbeats 1000000 in
theorem greatL_any (A : Option Addr) (n c m q : Nat) (l : List (List Nat)) (w : World) (hl : l.length = n) (hr : LC w A l) (hm : m ≤ 1000) (hq : q ≤ 1000) (g : Bool) (hg : g = grL l m q) :
    Calls Tryd.prog 7 #[.slice A n c, .int .i64 (m : Int), .int .i64 (q : Int)] w fun e w' => e = .returned (.bool g) ∧ w = w' := by
  have HE : Hid (l.length = n) := Lib.hid hl
  have HG := Lib.hid hg
  have HR := Lib.hid hr
  clear hl hg hr
  go_enter Tryd.func7, Tryd.ntmps7
  go_wp2_with fail
  go_loop [7] (fun i => ∃ k : Nat, k ≤ n ∧ k ≤ m ∧ i = .int .i64 (k : Int) ∧ Hid (∀ s ∈ l.take k, s.length ≤ q)) (fun i => n - (intOf i).toNat)
  case atStart => exact ⟨0, Nat.zero_le _, Nat.zero_le _, rfl, Lib.hid (by simp)⟩
  case round =>
    obtain ⟨k, hk, hkm, rfl, HA⟩ := hrel
    have hend : ¬ (k < n ∧ k < m) → Hid (g = decide (m < n)) := fun h => Lib.hid (by
      rw [HG.out]
      unfold grL
      rw [HE.out]
      by_cases h1 : m < n
      · simp [h1]
      · have h2 : ((l.take m).any fun s => decide (q < s.length)) = false := by
          rw [List.any_eq_false]
          intro s hs
          have hkn : n ≤ k := by omega
          have := HA.out s (by
            rw [List.take_of_length_le (by rw [HE.out]; exact hkn)]
            exact List.mem_of_mem_take hs)
          simpa using this
        rw [h2]; simp)
    by_cases hlt : k < n
    · by_cases hltm : k < m
      · obtain ⟨z, hz⟩ : ∃ z, l[k]? = some z := ⟨_, List.getElem?_eq_getElem (by rw [HE.out]; exact hlt)⟩
        obtain ⟨ad, u, rfl, hc, A', c', rfl, hcc, hrr⟩ := HR.out.at_ hz
        by_cases hzl : q < z.length
        · have HR : Hid (g = true) := Lib.hid (by
            rw [HG.out]
            unfold grL
            rw [Bool.or_eq_true]
            refine .inr (List.any_eq_true.2 ⟨z, ?_, by simp [hzl]⟩)
            rw [List.mem_take_iff_getElem]
            obtain ⟨h1, h2⟩ := List.getElem?_eq_some_iff.1 hz
            exact ⟨k, by omega, h2⟩)
          clear hz hend hrr
          go_wp2_with fail
          go_ret
          exact ⟨by rw [HR.out]; rfl, rfl⟩
        · have HA2 : Hid (∀ s ∈ l.take (k + 1), s.length ≤ q) := Lib.hid (by
            rw [List.take_add_one, hz]
            intro s hs
            rcases List.mem_append.1 hs with hs | hs
            · exact HA.out s hs
            · have hs : s = z := by simpa using hs
              subst hs; omega)
          clear hz hend hrr
          go_wp2_with fail
          go_round
          case rel => exact ⟨k + 1, by omega, by omega, by go_num, HA2⟩
          case measure => simp [intOf]; omega
      · have HR := hend (fun h => hltm h.2)
        clear hend
        by_cases hmn : m < n
        · go_wp2_with fail
          go_ret
          exact ⟨by rw [HR.out]; simp [hmn], rfl⟩
        · go_wp2_with fail
          go_ret
          exact ⟨by rw [HR.out]; simp [hmn], rfl⟩
    · have HR := hend (fun h => hlt h.1)
      clear hend
      by_cases hmn : m < n
      · go_wp2_with fail
        go_ret
        exact ⟨by rw [HR.out]; simp [hmn], rfl⟩
      · go_wp2_with fail
        go_ret
        exact ⟨by rw [HR.out]; simp [hmn], rfl⟩
end Go.Proofs.YtkopoepoinkpeaaDoor
