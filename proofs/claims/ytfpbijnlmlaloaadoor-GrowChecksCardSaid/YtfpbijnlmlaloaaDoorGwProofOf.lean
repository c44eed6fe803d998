/- Contract of package grow's proofOf: a proof's digests, in new memory. No condition but that there is a leaf. -/
import Derived.Test.YtfpbijnlmlaloaaDoorGwRefPart
import Derived.Test.YtfpbijnlmlaloaaDoorTrRoot
namespace Go.Proofs.YtfpbijnlmlaloaaDoor
open Go.RowKit
set_option linter.unusedVariables false
set_option linter.unusedSimpArgs false
set_option maxRecDepth 100000
attribute [local go_sem ↓] Go.wp_at_zero Go.wp_at_succ

def ProofOfC (N : Nat) : Prop := ∀ (ls : List (List Nat)) (m : Nat) (is : Bool) (A : Option Addr) (c : Nat) (w : World), ls.length = N → 1 ≤ m → m ≤ N → N ≤ 1000 → LC w A ls → (∀ l ∈ ls, ∀ b ∈ l, b < 256) → (∀ l ∈ ls, l.length ≤ 1000000) → N ≤ c → ShTab w →
    Calls Tryd.prog 17 #[.slice A N c, .int .i64 (m : Int), .bool is] w (NewH w (partD ls m is))
set_option maxHeartbeats 8000000 in
theorem proofOf_any : ∀ N, ProofOfC N := by
  intro N
  induction N using Nat.strongRecOn with
  | _ N ih =>
    intro ls m is A c w hN hi1 hi hmax hp hbt hlong hc ht
    by_cases h1 : m = N
    · subst h1
      rw [partD_same ls m is hN.symm]
      have HSP := Lib.hid (split_any (m : Int) w (by omega) (by omega))
      rw [Int.toNat_natCast] at HSP
      obtain ⟨k, hk⟩ : ∃ k, spl m = k := ⟨_, rfl⟩
      rw [hk] at HSP
      cases is with
      | false =>
        clear ih hp hk
        go_enter Tryd.func17, Tryd.ntmps17
        go_wp2_with fail
        refine HSP.out.mono ?_
        rintro _ _ ⟨rfl, rfl⟩
        go_wp2_with fail
        go_ret
        exact ⟨_, rfl, own_nil _ _ _ _, Below.refl _ _⟩
      | true =>
        obtain ⟨VB, hVB, hbz, hbo, hbi⟩ := hash_ok (rootL ls) (rootL_len ls)
        have HR2 := Lib.hid (root_any A m c ls w hN (by omega) hp hbt (fun l hl => by have := hlong l hl; omega) ht)
        unfold HashTo at HR2
        rw [hVB] at HR2
        have hfold := fold_whole #[.int .u8 0, .int .u8 0, .int .u8 0, .int .u8 0, .int .u8 0, .int .u8 0, .int .u8 0, .int .u8 0, .int .u8 0, .int .u8 0, .int .u8 0, .int .u8 0, .int .u8 0, .int .u8 0, .int .u8 0, .int .u8 0, .int .u8 0, .int .u8 0, .int .u8 0, .int .u8 0, .int .u8 0, .int .u8 0, .int .u8 0, .int .u8 0, .int .u8 0, .int .u8 0, .int .u8 0, .int .u8 0, .int .u8 0, .int .u8 0, .int .u8 0, .int .u8 0] VB (by rw [hbz]; rfl)
        rw [hbz] at hfold
        have HVB := Lib.hid hVB
        have HRL := Lib.hid (rootL_len ls)
        clear ih hp hbt hlong hVB hbo hbi hk ht
        go_enter Tryd.func17, Tryd.ntmps17
        go_wp2_with fail
        refine HSP.out.mono ?_
        rintro _ _ ⟨rfl, rfl⟩
        go_wp2_with fail
        refine HR2.out.mono ?_
        rintro _ w2 ⟨rfl, hb2⟩
        have HB2 := Lib.hid hb2
        clear hb2
        go_wp2_with fail
        go_ret
        have hbn := Blk.new w2 33 VB
        refine ⟨_, rfl, ?_, HB2.out.alloc HB2.out.size _⟩
        have hfl : bs [rootL ls].flatten = bs (rootL ls) := by simp
        rw [hfl]
        show (w2.alloc (.cells VB 33)).ownsRow w.heap.size 33 32 (.slice (some ⟨w2.heap.size, 0, none⟩) 1 1) 1 (bs (rootL ls))
        exact own_oneS hbn HB2.out.size HVB.out (by rw [bs_length, HRL.out])
    · obtain ⟨i0, hi0, hz0, hz1, hz2⟩ := info_parts info_hashB
      have h2 : 2 ≤ N := by omega
      have hne : m ≠ N := h1
      have hk1 := spl_lt h2
      have hk2 := spl_pos h2
      obtain ⟨b, o, rfl, _⟩ := hp.plain (by rw [hN]; omega)
      have HSP := Lib.hid (split_any (N : Int) w (by omega) (by omega))
      rw [Int.toNat_natCast] at HSP
      have hl1 := hp.fore (k := spl N) (by rw [hN]; omega)
      have hl2 := hp.cut (k := spl N) (cap := c) (by rw [hN]; omega) (by rw [hN]; exact hc)
      rw [if_neg (by omega)] at hl2
      have hn1 : (ls.take (spl N)).length = spl N := by rw [List.length_take, hN]; omega
      have hn2 : (ls.drop (spl N)).length = N - spl N := by rw [List.length_drop, hN]
      have hb1 : ∀ l ∈ ls.take (spl N), ∀ b ∈ l, b < 256 := fun l hl => hbt l (List.mem_of_mem_take hl)
      have hb2 : ∀ l ∈ ls.drop (spl N), ∀ b ∈ l, b < 256 := fun l hl => hbt l (List.mem_of_mem_drop hl)
      have hg1 : ∀ l ∈ ls.take (spl N), l.length ≤ 1000000 := fun l hl => hlong l (List.mem_of_mem_take hl)
      have hg2 : ∀ l ∈ ls.drop (spl N), l.length ≤ 1000000 := fun l hl => hlong l (List.mem_of_mem_drop hl)
      obtain ⟨k, hk⟩ : ∃ k, spl N = k := ⟨_, rfl⟩
      rw [hk] at hk1 hk2 hl1 hl2 hn1 hn2 hb1 hb2 hg1 hg2 HSP
      have hl3 : LC w (some ⟨b, o + k, none⟩) (ls.drop k) := by simpa [plain_add] using hl2
      obtain ⟨l1, e1⟩ : ∃ l1, ls.take k = l1 := ⟨_, rfl⟩
      obtain ⟨l2, e2⟩ : ∃ l2, ls.drop k = l2 := ⟨_, rfl⟩
      rw [e1] at hl1 hn1 hb1 hg1
      rw [e2] at hl3 hn2 hb2 hg2
      have q1 : (k : Int) ≤ (N : Int) := by omega
      have q2 : (N : Int) ≤ (c : Int) := by omega
      have q3 : (k : Int) ≤ (c : Int) := by omega
      have q4 : ¬ c = k := by omega
      have q5 : ((N : Int) - (k : Int)).toNat = N - k := by omega
      have q6 : ((c : Int) - (k : Int)).toNat = c - k := by omega
      have h1' : ¬ (m : Int) = (N : Int) := by omega
      clear hl2 hp hbt hlong
      by_cases hik : m ≤ k
      · have hpd := partD_left is (l := ls) (m := m) (by rw [hN]; exact h2) (by rw [hN]; exact hne) (by rw [hN, hk]; exact hik)
        rw [hN, hk, e1, e2] at hpd
        rw [hpd]
        obtain ⟨ps, hps⟩ : ∃ ps, partD l1 m is = ps := ⟨_, rfl⟩
        rw [hps]
        have hpl : ps.length ≤ 1000 := by
          rw [← hps, partD_len k _ m is hn1 hi1 hik]
          have := szD_le 10 k m is (by omega) hi1 hik
          omega
        obtain ⟨R, hR⟩ : ∃ R, rootL l2 = R := ⟨_, rfl⟩
        have hR32 : R.length = 32 := by rw [← hR]; exact rootL_len _
        obtain ⟨VB, hVB, hbz, hbo, hbi⟩ := hash_ok R hR32
        have hfold := fold_whole #[.int .u8 0, .int .u8 0, .int .u8 0, .int .u8 0, .int .u8 0, .int .u8 0, .int .u8 0, .int .u8 0, .int .u8 0, .int .u8 0, .int .u8 0, .int .u8 0, .int .u8 0, .int .u8 0, .int .u8 0, .int .u8 0, .int .u8 0, .int .u8 0, .int .u8 0, .int .u8 0, .int .u8 0, .int .u8 0, .int .u8 0, .int .u8 0, .int .u8 0, .int .u8 0, .int .u8 0, .int .u8 0, .int .u8 0, .int .u8 0, .int .u8 0, .int .u8 0] VB (by rw [hbz]; rfl)
        rw [hbz] at hfold
        have HP1 : Hid (∀ W, Below w.heap.size w W → Calls Tryd.prog 17 #[.slice (some ⟨b, o, none⟩) k c, .int .i64 (m : Int), .bool is] W (NewH W ps)) := Lib.hid fun W hW => by
          have := ih k (by omega) l1 m is (some ⟨b, o, none⟩) c W hn1 hi1 hik (by omega) (hl1.next hW) hb1 hg1 (by omega) (ht.next hW)
          rw [hps] at this
          exact this
        have HR2 : Hid (∀ W, Below w.heap.size w W → Calls Tryd.prog 15 #[.slice (some ⟨b, o + k, none⟩) (N - k) (c - k)] W fun e w' => e = .returned (.agg VB) ∧ Below W.heap.size W w') := Lib.hid fun W hW => by
          have := root_any (some ⟨b, o + k, none⟩) (N - k) (c - k) l2 W hn2 (by omega) (hl3.next hW) hb2 (fun l hl => by have := hg2 l hl; omega) (ht.next hW)
          unfold HashTo at this
          rw [hR, hVB] at this
          exact this
        rw [hR]
        have HVB := Lib.hid hVB
        have HR32 := Lib.hid hR32
        have hiI : (m : Int) ≤ (k : Int) := by omega
        have hwi : IntKind.i64.wrap ((m : Int) - (k : Int)) = (m : Int) - (k : Int) := IntWalk.i64_in _ (by omega)
        clear ih hk hl1 hl3 hn1 hn2 hb1 hb2 hg1 hg2 hps hR hVB hbo hbi hpd hR32 hN e1 e2 ht
        go_enter Tryd.func17, Tryd.ntmps17
        go_wp2_with fail
        refine HSP.out.mono ?_
        rintro _ _ ⟨rfl, rfl⟩
        go_upto_region 8 with fail
        have B0 := Below.drew (Below.refl w.heap.size w)
        go_region_law (first
          | (go_simp; go_at_call 17
             with_reducible refine (HP1.out _ B0).mono ?_
             rintro e V1 ⟨v1, rfl, hr1, hv1⟩
             have R1 : V1.ownsRow w.heap.size 33 32 v1 ps.length (bs ps.flatten) := hr1
             obtain ⟨A1, c1, rfl, _, _, _⟩ := own_slice R1
             have B1 := B0.trans (hv1.mono B0.size)
             clear hr1 hv1
             show _)
          | (go_simp; go_at_call 15
             with_reducible refine (HR2.out _ B1).mono ?_
             rintro e V2 ⟨rfl, hv2⟩
             have R2 := own_below R1 hv2
             have B2 := B1.trans (hv2.mono B1.size)
             clear hv2
             show _)
          | (refine step_append_any _ rfl (.tmp 50) (.tmp 55) _ rfl w.heap.size 33 i0 _ 32 32 Tryd.underlying25 hi0 hz0 hz1 hz2 (by simp [Value.cells]) (by omega) (.slice A1 ps.length c1) ps.length (bs ps.flatten) (by simp [Act.eval, Act.put])
               (R2.alloc _) (V2.heap.size + 1) (some ⟨V2.heap.size, 0, none⟩) 1 1 (bs R) (by simp [Act.eval, Act.put]) (reads_whole V2 _ VB _ 32 HVB.out (by rw [bs_length, HR32.out])) (bs_one _) (by unfold maxLen; omega) (by omega) (by have := B2.size; simp; omega) ?_
             intro v4 w4 hown4 hg4 hat4))
        have R4 : w4.ownsRow w.heap.size 33 32 v4 (ps ++ [R]).length (bs (ps ++ [R]).flatten) := by
          rw [List.length_append, List.flatten_append, bs_append]
          simpa using hown4
        have B4 := (B2.alloc B2.size (.cells VB 33)).grown hg4 (by have := B2.size; simp; omega) (fun g hg => (R2.lt g hg).1)
        have HR4 := Lib.hid R4; have HB4 := Lib.hid B4
        clear hown4 hg4 hat4 R1 R2 R4 B4 B0 B1 B2
        go_wp2_with fail
        go_ret
        exact ⟨v4, rfl, HR4.out, HB4.out⟩
      · have hpd := partD_right is (l := ls) (m := m) (by rw [hN]; exact h2) (by rw [hN]; exact hne) (by rw [hN, hk]; exact hik)
        rw [hN, hk, e1, e2] at hpd
        rw [hpd]
        obtain ⟨ps, hps⟩ : ∃ ps, partD l2 (m - k) true = ps := ⟨_, rfl⟩
        rw [hps]
        have hpl : ps.length ≤ 1000 := by
          rw [← hps, partD_len (N - k) _ (m - k) true hn2 (by omega) (by omega)]
          have := szD_le 10 (N - k) (m - k) true (by omega) (by omega) (by omega)
          omega
        obtain ⟨R, hR⟩ : ∃ R, rootL l1 = R := ⟨_, rfl⟩
        have hR32 : R.length = 32 := by rw [← hR]; exact rootL_len _
        obtain ⟨VB, hVB, hbz, hbo, hbi⟩ := hash_ok R hR32
        have hfold := fold_whole #[.int .u8 0, .int .u8 0, .int .u8 0, .int .u8 0, .int .u8 0, .int .u8 0, .int .u8 0, .int .u8 0, .int .u8 0, .int .u8 0, .int .u8 0, .int .u8 0, .int .u8 0, .int .u8 0, .int .u8 0, .int .u8 0, .int .u8 0, .int .u8 0, .int .u8 0, .int .u8 0, .int .u8 0, .int .u8 0, .int .u8 0, .int .u8 0, .int .u8 0, .int .u8 0, .int .u8 0, .int .u8 0, .int .u8 0, .int .u8 0, .int .u8 0, .int .u8 0] VB (by rw [hbz]; rfl)
        rw [hbz] at hfold
        have HP1 : Hid (∀ W, Below w.heap.size w W → Calls Tryd.prog 17 #[.slice (some ⟨b, o + k, none⟩) (N - k) (c - k), .int .i64 ((m : Int) - (k : Int)), .bool true] W (NewH W ps)) := Lib.hid fun W hW => by
          have := ih (N - k) (by omega) l2 (m - k) true (some ⟨b, o + k, none⟩) (c - k) W hn2 (by omega) (by omega) (by omega) (hl3.next hW) hb2 hg2 (by omega) (ht.next hW)
          rw [hps] at this
          rw [show ((m - k : Nat) : Int) = (m : Int) - (k : Int) by omega] at this
          exact this
        have HR2 : Hid (∀ W, Below w.heap.size w W → Calls Tryd.prog 15 #[.slice (some ⟨b, o, none⟩) k c] W fun e w' => e = .returned (.agg VB) ∧ Below W.heap.size W w') := Lib.hid fun W hW => by
          have := root_any (some ⟨b, o, none⟩) k c l1 W hn1 (by omega) (hl1.next hW) hb1 (fun l hl => by have := hg1 l hl; omega) (ht.next hW)
          unfold HashTo at this
          rw [hR, hVB] at this
          exact this
        rw [hR]
        have HVB := Lib.hid hVB
        have HR32 := Lib.hid hR32
        have hiI : ¬ (m : Int) ≤ (k : Int) := by omega
        have hwi : IntKind.i64.wrap ((m : Int) - (k : Int)) = (m : Int) - (k : Int) := IntWalk.i64_in _ (by omega)
        clear ih hk hl1 hl3 hn1 hn2 hb1 hb2 hg1 hg2 hps hR hVB hbo hbi hpd hR32 hN e1 e2 ht
        go_enter Tryd.func17, Tryd.ntmps17
        go_wp2_with fail
        refine HSP.out.mono ?_
        rintro _ _ ⟨rfl, rfl⟩
        go_upto_region 2 with fail
        have B0 := Below.drew (Below.refl w.heap.size w)
        go_region_law (first
          | (go_simp; go_at_call 17
             with_reducible refine (HP1.out _ B0).mono ?_
             rintro e V1 ⟨v1, rfl, hr1, hv1⟩
             have R1 : V1.ownsRow w.heap.size 33 32 v1 ps.length (bs ps.flatten) := hr1
             obtain ⟨A1, c1, rfl, _, _, _⟩ := own_slice R1
             have B1 := B0.trans (hv1.mono B0.size)
             clear hr1 hv1
             show _)
          | (go_simp; go_at_call 15
             with_reducible refine (HR2.out _ B1).mono ?_
             rintro e V2 ⟨rfl, hv2⟩
             have R2 := own_below R1 hv2
             have B2 := B1.trans (hv2.mono B1.size)
             clear hv2
             show _)
          | (refine step_append_any _ rfl (.tmp 20) (.tmp 25) _ rfl w.heap.size 33 i0 _ 32 32 Tryd.underlying25 hi0 hz0 hz1 hz2 (by simp [Value.cells]) (by omega) (.slice A1 ps.length c1) ps.length (bs ps.flatten) (by simp [Act.eval, Act.put])
               (R2.alloc _) (V2.heap.size + 1) (some ⟨V2.heap.size, 0, none⟩) 1 1 (bs R) (by simp [Act.eval, Act.put]) (reads_whole V2 _ VB _ 32 HVB.out (by rw [bs_length, HR32.out])) (bs_one _) (by unfold maxLen; omega) (by omega) (by have := B2.size; simp; omega) ?_
             intro v4 w4 hown4 hg4 hat4))
        have R4 : w4.ownsRow w.heap.size 33 32 v4 (ps ++ [R]).length (bs (ps ++ [R]).flatten) := by
          rw [List.length_append, List.flatten_append, bs_append]
          simpa using hown4
        have B4 := (B2.alloc B2.size (.cells VB 33)).grown hg4 (by have := B2.size; simp; omega) (fun g hg => (R2.lt g hg).1)
        have HR4 := Lib.hid R4; have HB4 := Lib.hid B4
        clear hown4 hg4 hat4 R1 R2 R4 B4 B0 B1 B2
        go_wp2_with fail
        go_ret
        exact ⟨v4, rfl, HR4.out, HB4.out⟩
end Go.Proofs.YtfpbijnlmlaloaaDoor
