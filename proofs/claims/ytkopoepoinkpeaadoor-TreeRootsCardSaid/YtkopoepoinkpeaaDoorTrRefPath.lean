/- Contract of the document's Path: the path of a leaf, in new memory. No condition. -/
import Derived.Deep.RegionLaw
import Derived.Test.YtkopoepoinkpeaaDoorTrRefRoot
import Derived.Test.YtkopoepoinkpeaaDoorGrFold
namespace Go.Proofs.YtkopoepoinkpeaaDoor
open Go.RowKit
set_option linter.unusedVariables false
set_option linter.unusedSimpArgs false
set_option maxRecDepth 100000
attribute [local go_sem ↓] Go.wp_at_zero Go.wp_at_succ

/-- Digests in new memory. -/
def NewH (w : World) (ds : List (List Nat)) (e : Ending) (w' : World) : Prop := ∃ v, e = .returned v ∧ w'.ownsRow w.heap.size 31 32 v ds.length (bs ds.flatten) ∧ Below w.heap.size w w'
theorem rootL_map (ls : List (List Nat)) (h : 0 < ls.length) : rootL ls = rootD (ls.map leafD) := by unfold rootL; rw [if_neg (by omega)]
def PathC (N : Nat) : Prop := ∀ (ls : List (List Nat)) (i : Nat) (A : Option Addr) (c : Nat) (w : World), ls.length = N → i < N → N ≤ 1000 → LC w A ls → (∀ l ∈ ls, ∀ b ∈ l, b < 256) → (∀ l ∈ ls, l.length ≤ 1000000) → N ≤ c →
    Calls Tryd.prog 11 #[.slice A N c, .int .i64 (i : Int)] w (NewH w (pathD (ls.map leafD) i))
set_option maxHeartbeats 8000000 in
theorem refPath_any : ∀ N, PathC N := by
  intro N
  induction N using Nat.strongRecOn with
  | _ N ih =>
    intro ls i A c w hN hi hmax hp hbt hlong hc
    by_cases h1 : N = 1
    · subst h1
      rw [pathD_one i (by rw [List.length_map, hN]; omega)]
      clear ih hp
      go_enter Tryd.func11, Tryd.ntmps11
      go_wp2_with fail
      go_ret
      exact ⟨_, rfl, own_nil _ _ _ _, Below.refl _ _⟩
    · obtain ⟨i0, hi0, hz0, hz1, hz2⟩ := info_parts info_hashB
      have h2 : 2 ≤ N := by omega
      have hk1 := spl_lt h2
      have hk2 := spl_pos h2
      obtain ⟨b, o, rfl, _⟩ := hp.plain (by rw [hN]; omega)
      have HSP := Lib.hid (refSplit_any (N : Int) w (by omega) (by omega))
      rw [Int.toNat_natCast] at HSP
      have hl1 := hp.fore (k := spl N) (by rw [hN]; omega)
      have hl2 := hp.cut (k := spl N) (cap := c) (by rw [hN]; omega) (by rw [hN]; exact hc)
      rw [if_neg (by omega)] at hl2
      have hn1 : (ls.take (spl N)).length = spl N := by rw [List.length_take, hN]; omega
      have hn2 : (ls.drop (spl N)).length = N - spl N := by rw [List.length_drop, hN]
      have hb1 : ∀ l ∈ ls.take (spl N), ∀ b ∈ l, b < 256 := fun l hl => hbt l (List.mem_of_mem_take hl)
      have hb2 : ∀ l ∈ ls.drop (spl N), ∀ b ∈ l, b < 256 := fun l hl => hbt l (List.mem_of_mem_drop hl)
      have hg1 : ∀ l ∈ ls.take (spl N), l.length ≤ 1000000 := fun l hl => hlong l (List.mem_of_mem_take hl)
      have hg2 : ∀ l ∈ ls.drop (spl N), l.length ≤ 1000000 := fun l hl => hlong l (List.mem_of_mem_drop hl)
      obtain ⟨k, hk⟩ : ∃ k, spl N = k := ⟨_, rfl⟩
      rw [hk] at hk1 hk2 hl1 hl2 hn1 hn2 hb1 hb2 hg1 hg2 HSP
      have hl3 : LC w (some ⟨b, o + k, none⟩) (ls.drop k) := by simpa [plain_add] using hl2
      obtain ⟨l1, e1⟩ : ∃ l1, ls.take k = l1 := ⟨_, rfl⟩
      obtain ⟨l2, e2⟩ : ∃ l2, ls.drop k = l2 := ⟨_, rfl⟩
      rw [e1] at hl1 hn1 hb1 hg1
      rw [e2] at hl3 hn2 hb2 hg2
      have q1 : (k : Int) ≤ (N : Int) := by omega
      have q2 : (N : Int) ≤ (c : Int) := by omega
      have q3 : (k : Int) ≤ (c : Int) := by omega
      have q4 : ¬ c = k := by omega
      have q5 : ((N : Int) - (k : Int)).toNat = N - k := by omega
      have q6 : ((c : Int) - (k : Int)).toNat = c - k := by omega
      have h1' : ¬ (N : Int) = 1 := by omega
      clear hl2 hp hbt hlong
      by_cases hik : i < k
      · have hpd := pathD_left (l := ls.map leafD) (i := i) (by rw [List.length_map, hN]; exact h2) (by rw [List.length_map, hN, hk]; exact hik)
        rw [List.length_map, hN, hk, ← List.map_take, ← List.map_drop, e1, e2, ← rootL_map l2 (by rw [hn2]; omega)] at hpd
        rw [hpd]
        obtain ⟨ps, hps⟩ : ∃ ps, pathD (l1.map leafD) i = ps := ⟨_, rfl⟩
        rw [hps]
        have hpl : ps.length ≤ 1000 := by
          rw [← hps, pathD_len k _ i (by rw [List.length_map]; exact hn1) (by omega)]
          have := depD_lt k i (by omega)
          omega
        obtain ⟨R, hR⟩ : ∃ R, rootL l2 = R := ⟨_, rfl⟩
        have hR32 : R.length = 32 := by rw [← hR]; exact rootL_len _
        obtain ⟨VB, hVB, hbz, hbo, hbi⟩ := hash_ok R hR32
        have hfold := fold_whole #[.int .u8 0, .int .u8 0, .int .u8 0, .int .u8 0, .int .u8 0, .int .u8 0, .int .u8 0, .int .u8 0, .int .u8 0, .int .u8 0, .int .u8 0, .int .u8 0, .int .u8 0, .int .u8 0, .int .u8 0, .int .u8 0, .int .u8 0, .int .u8 0, .int .u8 0, .int .u8 0, .int .u8 0, .int .u8 0, .int .u8 0, .int .u8 0, .int .u8 0, .int .u8 0, .int .u8 0, .int .u8 0, .int .u8 0, .int .u8 0, .int .u8 0, .int .u8 0] VB (by rw [hbz]; rfl)
        rw [hbz] at hfold
        have HP1 : Hid (∀ W, Below w.heap.size w W → Calls Tryd.prog 11 #[.slice (some ⟨b, o, none⟩) k c, .int .i64 (i : Int)] W (NewH W ps)) := Lib.hid fun W hW => by
          have := ih k (by omega) l1 i (some ⟨b, o, none⟩) c W hn1 (by omega) (by omega) (hl1.next hW) hb1 hg1 (by omega)
          rw [hps] at this
          exact this
        have HR2 : Hid (∀ W, Below w.heap.size w W → Calls Tryd.prog 13 #[.slice (some ⟨b, o + k, none⟩) (N - k) (c - k)] W fun e w' => e = .returned (.agg VB) ∧ Below W.heap.size W w') := Lib.hid fun W hW => by
          have := refRoot_any (N - k) l2 (some ⟨b, o + k, none⟩) (c - k) W hn2 (by omega) (hl3.next hW) hb2 (fun l hl => by have := hg2 l hl; omega) (by omega)
          unfold HashTo at this
          rw [hR, hVB] at this
          exact this
        rw [hR]
        have HVB := Lib.hid hVB
        have HR32 := Lib.hid hR32
        have hiI : (i : Int) < (k : Int) := by omega
        have hwi : IntKind.i64.wrap ((i : Int) - (k : Int)) = (i : Int) - (k : Int) := IntWalk.i64_in _ (by omega)
        clear ih hk hl1 hl3 hn1 hn2 hb1 hb2 hg1 hg2 hps hR hVB hbo hbi hpd hR32 hN e1 e2
        go_enter Tryd.func11, Tryd.ntmps11
        go_wp2_with fail
        refine HSP.out.mono ?_
        rintro _ _ ⟨rfl, rfl⟩
        go_upto_region 5 with fail
        have B0 := Below.drew (Below.refl w.heap.size w)
        go_region_law (first
          | (go_simp; go_at_call 11
             with_reducible refine (HP1.out _ B0).mono ?_
             rintro e V1 ⟨v1, rfl, hr1, hv1⟩
             have R1 : V1.ownsRow w.heap.size 31 32 v1 ps.length (bs ps.flatten) := hr1
             obtain ⟨A1, c1, rfl, _, _, _⟩ := own_slice R1
             have B1 := B0.trans (hv1.mono B0.size)
             clear hr1 hv1
             show _)
          | (go_simp; go_at_call 13
             with_reducible refine (HR2.out _ B1).mono ?_
             rintro e V2 ⟨rfl, hv2⟩
             have R2 := own_below R1 hv2
             have B2 := B1.trans (hv2.mono B1.size)
             clear hv2
             show _)
          | (refine step_append_any _ rfl (.tmp 19) (.tmp 24) _ rfl w.heap.size 31 i0 _ 32 32 Tryd.underlying25 hi0 hz0 hz1 hz2 (by simp [Value.cells]) (by omega) (.slice A1 ps.length c1) ps.length (bs ps.flatten) (by simp [Act.eval, Act.put])
               (R2.alloc _) (V2.heap.size + 1) (some ⟨V2.heap.size, 0, none⟩) 1 1 (bs R) (by simp [Act.eval, Act.put]) (reads_whole V2 _ VB _ 32 HVB.out (by rw [bs_length, HR32.out])) (bs_one _) (by unfold maxLen; omega) (by omega) (by have := B2.size; simp; omega) ?_
             intro v4 w4 hown4 hg4 hat4))
        have R4 : w4.ownsRow w.heap.size 31 32 v4 (ps ++ [R]).length (bs (ps ++ [R]).flatten) := by
          rw [List.length_append, List.flatten_append, bs_append]
          simpa using hown4
        have B4 := (B2.alloc B2.size (.cells VB 31)).grown hg4 (by have := B2.size; simp; omega) (fun g hg => (R2.lt g hg).1)
        have HR4 := Lib.hid R4; have HB4 := Lib.hid B4
        clear hown4 hg4 hat4 R1 R2 R4 B4 B0 B1 B2
        go_wp2_with fail
        go_ret
        exact ⟨v4, rfl, HR4.out, HB4.out⟩
      · have hpd := pathD_right (l := ls.map leafD) (i := i) (by rw [List.length_map, hN]; exact h2) (by rw [List.length_map, hN, hk]; exact hik)
        rw [List.length_map, hN, hk, ← List.map_take, ← List.map_drop, e1, e2, ← rootL_map l1 (by rw [hn1]; omega)] at hpd
        rw [hpd]
        obtain ⟨ps, hps⟩ : ∃ ps, pathD (l2.map leafD) (i - k) = ps := ⟨_, rfl⟩
        rw [hps]
        have hpl : ps.length ≤ 1000 := by
          rw [← hps, pathD_len (N - k) _ (i - k) (by rw [List.length_map]; exact hn2) (by omega)]
          have := depD_lt (N - k) (i - k) (by omega)
          omega
        obtain ⟨R, hR⟩ : ∃ R, rootL l1 = R := ⟨_, rfl⟩
        have hR32 : R.length = 32 := by rw [← hR]; exact rootL_len _
        obtain ⟨VB, hVB, hbz, hbo, hbi⟩ := hash_ok R hR32
        have hfold := fold_whole #[.int .u8 0, .int .u8 0, .int .u8 0, .int .u8 0, .int .u8 0, .int .u8 0, .int .u8 0, .int .u8 0, .int .u8 0, .int .u8 0, .int .u8 0, .int .u8 0, .int .u8 0, .int .u8 0, .int .u8 0, .int .u8 0, .int .u8 0, .int .u8 0, .int .u8 0, .int .u8 0, .int .u8 0, .int .u8 0, .int .u8 0, .int .u8 0, .int .u8 0, .int .u8 0, .int .u8 0, .int .u8 0, .int .u8 0, .int .u8 0, .int .u8 0, .int .u8 0] VB (by rw [hbz]; rfl)
        rw [hbz] at hfold
        have HP1 : Hid (∀ W, Below w.heap.size w W → Calls Tryd.prog 11 #[.slice (some ⟨b, o + k, none⟩) (N - k) (c - k), .int .i64 ((i : Int) - (k : Int))] W (NewH W ps)) := Lib.hid fun W hW => by
          have := ih (N - k) (by omega) l2 (i - k) (some ⟨b, o + k, none⟩) (c - k) W hn2 (by omega) (by omega) (hl3.next hW) hb2 hg2 (by omega)
          rw [hps] at this
          rw [show ((i - k : Nat) : Int) = (i : Int) - (k : Int) by omega] at this
          exact this
        have HR2 : Hid (∀ W, Below w.heap.size w W → Calls Tryd.prog 13 #[.slice (some ⟨b, o, none⟩) k c] W fun e w' => e = .returned (.agg VB) ∧ Below W.heap.size W w') := Lib.hid fun W hW => by
          have := refRoot_any k l1 (some ⟨b, o, none⟩) c W hn1 (by omega) (hl1.next hW) hb1 (fun l hl => by have := hg1 l hl; omega) (by omega)
          unfold HashTo at this
          rw [hR, hVB] at this
          exact this
        rw [hR]
        have HVB := Lib.hid hVB
        have HR32 := Lib.hid hR32
        have hiI : ¬ (i : Int) < (k : Int) := by omega
        have hwi : IntKind.i64.wrap ((i : Int) - (k : Int)) = (i : Int) - (k : Int) := IntWalk.i64_in _ (by omega)
        clear ih hk hl1 hl3 hn1 hn2 hb1 hb2 hg1 hg2 hps hR hVB hbo hbi hpd hR32 hN e1 e2
        go_enter Tryd.func11, Tryd.ntmps11
        go_wp2_with fail
        refine HSP.out.mono ?_
        rintro _ _ ⟨rfl, rfl⟩
        go_upto_region 6 with fail
        have B0 := Below.drew (Below.refl w.heap.size w)
        go_region_law (first
          | (go_simp; go_at_call 11
             with_reducible refine (HP1.out _ B0).mono ?_
             rintro e V1 ⟨v1, rfl, hr1, hv1⟩
             have R1 : V1.ownsRow w.heap.size 31 32 v1 ps.length (bs ps.flatten) := hr1
             obtain ⟨A1, c1, rfl, _, _, _⟩ := own_slice R1
             have B1 := B0.trans (hv1.mono B0.size)
             clear hr1 hv1
             show _)
          | (go_simp; go_at_call 13
             with_reducible refine (HR2.out _ B1).mono ?_
             rintro e V2 ⟨rfl, hv2⟩
             have R2 := own_below R1 hv2
             have B2 := B1.trans (hv2.mono B1.size)
             clear hv2
             show _)
          | (refine step_append_any _ rfl (.tmp 32) (.tmp 37) _ rfl w.heap.size 31 i0 _ 32 32 Tryd.underlying25 hi0 hz0 hz1 hz2 (by simp [Value.cells]) (by omega) (.slice A1 ps.length c1) ps.length (bs ps.flatten) (by simp [Act.eval, Act.put])
               (R2.alloc _) (V2.heap.size + 1) (some ⟨V2.heap.size, 0, none⟩) 1 1 (bs R) (by simp [Act.eval, Act.put]) (reads_whole V2 _ VB _ 32 HVB.out (by rw [bs_length, HR32.out])) (bs_one _) (by unfold maxLen; omega) (by omega) (by have := B2.size; simp; omega) ?_
             intro v4 w4 hown4 hg4 hat4))
        have R4 : w4.ownsRow w.heap.size 31 32 v4 (ps ++ [R]).length (bs (ps ++ [R]).flatten) := by
          rw [List.length_append, List.flatten_append, bs_append]
          simpa using hown4
        have B4 := (B2.alloc B2.size (.cells VB 31)).grown hg4 (by have := B2.size; simp; omega) (fun g hg => (R2.lt g hg).1)
        have HR4 := Lib.hid R4; have HB4 := Lib.hid B4
        clear hown4 hg4 hat4 R1 R2 R4 B4 B0 B1 B2
        go_wp2_with fail
        go_ret
        exact ⟨v4, rfl, HR4.out, HB4.out⟩
end Go.Proofs.YtkopoepoinkpeaaDoor
