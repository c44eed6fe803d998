/- The walk of the statement GrowProofs. -/
import Derived.Test.YtfpbijnlmlaloaaDoorGwAwake
import Derived.Test.YtfpbijnlmlaloaaDoorJ38
import Derived.Test.YtfpbijnlmlaloaaDoorTrGreat
import Derived.Test.YtfpbijnlmlaloaaDoorTrSameH
namespace Go.Proofs.YtfpbijnlmlaloaaDoor
open Go.RowKit
set_option linter.unusedVariables false
set_option linter.unusedSimpArgs false
set_option maxRecDepth 100000

set_option maxHeartbeats 4000000 in
theorem proofs20_any (A : Option Addr) (n c : Nat) (ls : List (List Nat)) (m : Int) (w : World) (hn : ls.length = n) (hp : LC w A ls) (hbt : ∀ l ∈ ls, ∀ b ∈ l, b < 256) (hc : n ≤ c) (hm : n ≤ 9223372036854775807) (ht : ShTab w) :
    Calls Tryd.prog 3 #[.slice A n c, .int .i64 m] w fun e w' => e = .returned (.bool true) ∧ Below w.heap.size w w' := by
  obtain ⟨g, hg⟩ : ∃ g, g = grL ls 30 60 := ⟨_, rfl⟩
  have HG := Lib.hid (greatL_any A n c 30 60 ls w hn hp (by omega) (by omega) g hg)
  have HGF := Lib.hid fun h : g = false => grL_false (by rw [← hg]; exact h)
  have HAW := Lib.hid fun (W : World) (hW : Below w.heap.size w W) => awake20_any W (ht.next hW)
  cases g with
  | true =>
    have HA1 := Lib.hid (HAW.out w (Below.refl _ _))
    clear hg ht hp hbt hn HGF HAW
    go_enter Tryd.func3, Tryd.ntmps3
    go_wp2_with fail
    refine HG.out.mono ?_
    rintro _ _ ⟨rfl, rfl⟩
    go_wp2_with fail
    refine HA1.out.mono ?_
    rintro _ w2 ⟨rfl, hb⟩
    go_wp2_with fail
    go_ret
    exact ⟨rfl, hb⟩
  | false =>
    obtain ⟨h30, h60⟩ := HGF.out rfl
    rw [hn] at h30
    have HSZ := Lib.hid fun (W : World) => gwSize_any m (n : Int) W (by omega) (by omega)
    by_cases hin : 0 ≤ m ∧ m ≤ (n : Int)
    · obtain ⟨M, rfl⟩ : ∃ M : Nat, m = (M : Int) := ⟨m.toNat, by omega⟩
      have hM : M ≤ n := by omega
      have HC1 := Lib.hid (gwProof_yes n M ls A c w hn hM (by omega) hp hbt (fun l hl => by have := h60 l hl; omega) hc ht)
      have HC2 := Lib.hid fun (W : World) (hW : Below w.heap.size w W) => refProof_any n M ls A c W hn hM (by omega) (hp.next hW) hbt (fun l hl => by have := h60 l hl; omega) hc
      have hsz := proofD_len ls M (by omega)
      rw [hn] at hsz
      rw [← hsz] at HSZ
      have hpl : (proofD ls M).length ≤ 1000 := by
        have h2 : ((proofD ls M).length : Int) = sizeD (M : Int) (n : Int) := hsz
        unfold sizeD at h2
        rw [if_neg (by omega)] at h2
        by_cases h0 : (M : Int) = 0
        · rw [if_pos h0] at h2; omega
        · rw [if_neg h0] at h2
          simp only [Int.toNat_natCast] at h2
          have := szD_le 10 n M false (by omega) (by omega) hM
          omega
      obtain ⟨ps, hps⟩ : ∃ ps, proofD ls M = ps := ⟨_, rfl⟩
      have hdg : Dg ps := by rw [← hps]; exact proofD_dg ls M
      rw [hps] at HC1 HC2 HSZ hpl
      have n1 : ¬ (M : Int) < 0 := by omega
      have n2 : ¬ (n : Int) < (M : Int) := by omega
      have HDG := Lib.hid hdg; have HPL := Lib.hid hpl
      clear hg ht hp hbt hn HGF h30 h60 hsz hps hdg hin hpl
      go_enter Tryd.func3, Tryd.ntmps3
      go_wp2_with fail
      refine HG.out.mono ?_
      rintro _ _ ⟨rfl, rfl⟩
      go_wp2_with fail
      refine HC1.out.mono ?_
      rintro _ w1 ⟨v, rfl, ho1, hb1⟩
      obtain ⟨A1, c1, rfl, _, _, _⟩ := own_slice ho1
      have HA1 := Lib.hid (HsAt.of_own ho1)
      have HB1 := Lib.hid hb1
      clear ho1 hb1
      go_wp2_with fail
      refine (HC2.out _ HB1.out).mono ?_
      rintro _ w2 ⟨v2, rfl, ho2, hb2⟩
      obtain ⟨A2, c2, rfl, _, _, _⟩ := own_slice ho2
      have HA2 := Lib.hid (HsAt.of_own ho2)
      have HA12 := Lib.hid (HA1.out.next hb2)
      have HB2 := Lib.hid (HB1.out.trans (hb2.mono HB1.out.size))
      clear ho2 hb2
      have HS := Lib.hid (sameH19_any A1 A2 ps.length ps.length c1 c2 ps ps w2 HA12.out HA2.out HDG.out HDG.out rfl rfl (by have := HPL.out; omega))
      rw [decide_eq_true rfl] at HS
      go_wp2_with fail
      refine HS.out.mono ?_
      rintro _ w3 ⟨rfl, hb3⟩
      have HB3 := Lib.hid (HB2.out.trans (hb3.mono HB2.out.size))
      clear hb3
      go_wp2_with fail
      refine (HSZ.out _).mono ?_
      rintro _ _ ⟨rfl, rfl⟩
      go_wp2_with fail
      refine (HAW.out _ HB3.out).mono ?_
      rintro _ w4 ⟨rfl, hb4⟩
      have HB4 := Lib.hid (HB3.out.trans (hb4.mono HB3.out.size))
      clear hb4
      go_wp2_with fail
      go_ret
      exact ⟨by simp, HB4.out⟩
    · have HC1 := Lib.hid (gwProof_no n m A c w (by omega))
      have hs : sizeD m (n : Int) = -1 := by unfold sizeD; rw [if_pos (by omega)]
      rw [hs] at HSZ
      have HA1 := Lib.hid (HAW.out w (Below.refl _ _))
      have hcase : m < 0 ∨ (¬ m < 0 ∧ (n : Int) < m) := by omega
      clear hg ht hp hbt hn HGF h30 h60 hs hin HAW
      rcases hcase with h1 | ⟨h1, h2⟩
      all_goals
        go_enter Tryd.func3, Tryd.ntmps3
        go_wp2_with fail
        refine HG.out.mono ?_
        rintro _ _ ⟨rfl, rfl⟩
        go_wp2_with fail
        refine HC1.out.mono ?_
        rintro _ _ ⟨rfl, rfl⟩
        go_wp2_with fail
        refine (HSZ.out _).mono ?_
        rintro _ _ ⟨rfl, rfl⟩
        go_wp2_with fail
        refine HA1.out.mono ?_
        rintro _ w4 ⟨rfl, hb4⟩
        go_wp2_with fail
        go_ret
        exact ⟨rfl, hb4⟩
end Go.Proofs.YtfpbijnlmlaloaaDoor
