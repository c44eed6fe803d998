/- Contract of the document's SameHashes. No condition. -/
import Derived.Test.YtfpbijnlmlaloaaDoorJ27
namespace Go.Proofs.YtfpbijnlmlaloaaDoor
open Go.RowKit
set_option linter.unusedVariables false
set_option linter.unusedSimpArgs false
set_option maxRecDepth 100000

set_option maxHeartbeats 2000000 in
theorem sameH19_any (A A' : Option Addr) (n m c c' : Nat) (ds es : List (List Nat)) (w : World) (h1 : HsAt w A ds) (h2 : HsAt w A' es) (d1 : Dg ds) (d2 : Dg es) (hn : ds.length = n) (hm : es.length = m) (hn2 : n ≤ 1000000) :
    Calls Tryd.prog 10 #[.slice A n c, .slice A' m c'] w fun e w' => e = .returned (.bool (decide (ds = es))) ∧ Below w.heap.size w w' := by
  by_cases hnm : n = m
  · subst hnm
    have hD : ∀ d ∈ ds, d.length = 32 := fun d hd => (d1 d hd).1
    obtain ⟨q, hq⟩ : ∃ q, decide (ds = es) = q := ⟨_, rfl⟩
    rw [hq]
    have HQ := Lib.hid hq
    have HD1 := Lib.hid d1; have HD2 := Lib.hid d2; have HN := Lib.hid hn; have HM := Lib.hid hm; have H1 := Lib.hid h1; have H2 := Lib.hid h2
    clear h1 h2 d1 d2 hn hm hq hD
    go_enter Tryd.func10, Tryd.ntmps10
    go_wp2_with fail
    go_loopg [5] n (fun gk s5 wr => ∃ i : Nat, i + gk = n ∧ s5 = .int .i64 (i : Int) ∧ Hid (ds.take i = es.take i) ∧ Hid (Below w.heap.size w wr))
    case atStart => exact ⟨0, by omega, rfl, Lib.hid rfl, Lib.hid (Below.refl _ _)⟩
    case round =>
      obtain ⟨i, hig, rfl, hs, hb⟩ := hrel
      cases gk with
      | zero =>
        obtain rfl : i = n := by omega
        clear hig
        have hin : ¬ (i : Int) < (i : Int) := by omega
        go_wp2_with fail
        go_ret
        refine ⟨?_, hb.out⟩
        have e1 := hs.out
        rw [List.take_of_length_le (by rw [HN.out]; exact Nat.le_refl _), List.take_of_length_le (by rw [HM.out]; exact Nat.le_refl _)] at e1
        rw [← HQ.out, e1]
        simp
      | succ gk =>
        have hin2 : i < n := by omega
        have hii : (i : Int) < (n : Int) := by omega
        obtain ⟨d, hd⟩ : ∃ d, ds[i]? = some d := ⟨_, List.getElem?_eq_getElem (by rw [HN.out]; exact hin2)⟩
        obtain ⟨e, he⟩ : ∃ e, es[i]? = some e := ⟨_, List.getElem?_eq_getElem (by rw [HM.out]; exact hin2)⟩
        have hd32 := (HD1.out d (List.mem_of_getElem? hd)).1
        have he32 := (HD2.out e (List.mem_of_getElem? he)).1
        obtain ⟨b1, o1, hA1, _, hr1⟩ := (H1.out.next hb.out).at_ HD1.out hd
        obtain ⟨b2, o2, hA2, _, hr2⟩ := (H2.out.next hb.out).at_ HD2.out he
        subst hA1 hA2
        have HST := Lib.hid (take_same hs.out hd he)
        have HR1 := Lib.hid (range_regrown hr1); have HR2 := Lib.hid (range_regrown hr2)
        obtain ⟨r, hr⟩ : ∃ r, (!decide (d = e)) = r := ⟨_, rfl⟩
        have HE := Lib.hid fun W => neqD W d e hd32 he32
        rw [hr] at HE
        have HR := Lib.hid hr
        have HI1 := Lib.hid (hash_size d hd32); have HI2 := Lib.hid (hash_size e he32)
        have HSZ := Lib.hid hb.out.size
        clear hr1 hr2 hr
        go_upto_region 6 with fail
        refine wp_region_quiet_below (by kernel_rfl) (by kernel_rfl) ?_
        go_big_quiet_step (fail)
        go_big_quiet_step (fail)
        go_big_quiet_step (fail)
        refine wpQuiet_load (by rfl) 33 (.tmp 19) rfl b1 (o1 + i * 32) rfl (bs d) _ rfl _ HR1.out Tryd.underlying33 rfl HI1.out ?_
        try simp only [Act.put, List.setIfInBounds_toArray, List.set_cons_zero, List.set_cons_succ]
        go_big_quiet_step (fail)
        go_big_quiet_step (fail)
        go_big_quiet_step (fail)
        refine wpQuiet_load (by rfl) 33 (.tmp 23) rfl b2 (o2 + i * 32) rfl (bs e) _ rfl _ HR2.out Tryd.underlying33 rfl HI2.out ?_
        try simp only [Act.put, List.setIfInBounds_toArray, List.set_cons_zero, List.set_cons_succ]
        refine wpQuiet_bin (by rfl) .neq 33 _ (.tmp 20) (.tmp 24) rfl _ _ rfl rfl hash_guard _ HE.out ?_
        try simp only [Act.put, List.setIfInBounds_toArray, List.set_cons_zero, List.set_cons_succ]
        refine wpQuiet_nil ?_
        intro _ hw'
        obtain ⟨p, hw''⟩ := hw'
        subst hw''
        have HB2 := Lib.hid (hb.out.trans ((below_regrown wr p.d p.os).mono hb.out.size))
        cases r with
        | false =>
          have HS2 := Lib.hid (HST.out.1 (by have := HR.out; simpa using this))
          go_wp2_with fail
          go_roundg gk
          case measure => omega
          case rel => exact ⟨i + 1, by omega, by go_num, HS2, HB2⟩
        | true =>
          have HNE : Hid (q = false) := Lib.hid (by
            rw [← HQ.out]
            simp only [decide_eq_false_iff_not]
            intro hac
            have h1 := HR.out
            have h2 : d = e := HST.out.2 (by rw [hac])
            rw [h2] at h1
            simp at h1)
          go_wp2_with fail
          go_ret
          exact ⟨by rw [HNE.out]; rfl, HB2.out⟩
  · have hne : decide (ds = es) = false := by
      simp only [decide_eq_false_iff_not]
      intro h
      exact hnm (by rw [← hn, ← hm, h])
    rw [hne]
    have hnm2 : ¬ (n : Int) = (m : Int) := by omega
    clear h1 h2 d1 d2 hn hm hne
    go_enter Tryd.func10, Tryd.ntmps10
    go_wp2_with fail
    go_ret
    exact ⟨rfl, Below.refl _ _⟩
end Go.Proofs.YtfpbijnlmlaloaaDoor
