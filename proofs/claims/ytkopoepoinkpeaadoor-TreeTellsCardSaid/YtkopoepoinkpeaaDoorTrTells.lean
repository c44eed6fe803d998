/- The walk of the statement TreeTells. -/
import Derived.Test.YtkopoepoinkpeaaDoorTrParts
import Derived.Test.YtkopoepoinkpeaaDoorTrClash
import Derived.Test.YtkopoepoinkpeaaDoorSame
namespace Go.Proofs.YtkopoepoinkpeaaDoor
open Go.RowKit
set_option linter.unusedVariables false
set_option linter.unusedSimpArgs false
set_option maxRecDepth 100000

theorem tk_same {ds es : List (List Nat)} {i : Nat} {d e : List Nat} (h1 : ds[i]? = some d) (h2 : es[i]? = some e) : (ds.take i = es.take i ∧ d = e ↔ ds.take (i + 1) = es.take (i + 1)) := by
  rw [List.take_add_one, List.take_add_one, h1, h2]
  have hl : (ds.take i).length = (es.take i).length := by
    have := (List.getElem?_eq_some_iff.1 h1).1
    have := (List.getElem?_eq_some_iff.1 h2).1
    rw [List.length_take, List.length_take]
    omega
  constructor
  · rintro ⟨h, rfl⟩; rw [h]
  · intro h
    obtain ⟨h3, h4⟩ := List.append_inj h hl
    exact ⟨h3, by simpa using h4⟩
theorem clashIn_of {ls ms : List (List Nat)} (h : ∃ x ∈ ls, ∃ y ∈ ms, x ≠ y ∧ shaN x = shaN y) : ClashIn (ls ++ ms) := by
  obtain ⟨x, hx, y, hy, hxy⟩ := h
  exact ⟨x, by simp [hx], y, by simp [hy], hxy⟩
set_option maxHeartbeats 8000000 in
theorem tellsT19_any (A A' : Option Addr) (n m c c' : Nat) (ds es : List (List Nat)) (w : World) (hn : ds.length = n) (hm : es.length = m) (hp : LC w A ds) (hq : LC w A' es) (hbt : ∀ l ∈ ds, ∀ b ∈ l, b < 256) (hbt' : ∀ l ∈ es, ∀ b ∈ l, b < 256) (hc : n ≤ c) (hc' : m ≤ c') (hn0 : n ≤ 9223372036854775807) (hm0 : m ≤ 9223372036854775807) (ht : ShTab w) :
    Calls Tryd.prog 5 #[.slice A n c, .slice A' m c'] w fun e w' => e = .returned (.bool true) ∧ Below w.heap.size w w' := by
  obtain ⟨g, hg⟩ : ∃ g, g = grL ds 30 60 := ⟨_, rfl⟩
  obtain ⟨g', hg'⟩ : ∃ g, g = grL es 30 60 := ⟨_, rfl⟩
  have HG := Lib.hid (greatL_any A n c 30 60 ds w hn hp (by omega) (by omega) g hg)
  have HG' := Lib.hid (greatL_any A' m c' 30 60 es w hm hq (by omega) (by omega) g' hg')
  have HGF := Lib.hid fun h : g = false => grL_false (by rw [← hg]; exact h)
  have HGF' := Lib.hid fun h : g' = false => grL_false (by rw [← hg']; exact h)
  have HAW := Lib.hid (awake19_any w ht)
  have HT := Lib.hid ht; have HP := Lib.hid hp; have HQ := Lib.hid hq; have HBT := Lib.hid hbt; have HBT' := Lib.hid hbt'; have HN := Lib.hid hn; have HM := Lib.hid hm
  clear hg hg' ht hp hq hbt hbt' hn hm
  cases g with
  | true =>
    go_enter Tryd.func5, Tryd.ntmps5
    go_wp2_with fail
    refine HG.out.mono ?_
    rintro _ _ ⟨rfl, rfl⟩
    go_wp2_with fail
    refine HAW.out.mono ?_
    rintro _ w2 ⟨rfl, hb⟩
    go_wp2_with fail
    go_ret
    exact ⟨rfl, hb⟩
  | false =>
    cases g' with
    | true =>
      go_enter Tryd.func5, Tryd.ntmps5
      go_wp2_with fail
      refine HG.out.mono ?_
      rintro _ _ ⟨rfl, rfl⟩
      go_wp2_with fail
      refine HG'.out.mono ?_
      rintro _ _ ⟨rfl, rfl⟩
      go_wp2_with fail
      refine HAW.out.mono ?_
      rintro _ w2 ⟨rfl, hb⟩
      go_wp2_with fail
      go_ret
      exact ⟨rfl, hb⟩
    | false =>
      by_cases hnm : n = m
      · subst hnm
        obtain ⟨h30, h60⟩ := HGF.out rfl
        obtain ⟨_, h60'⟩ := HGF'.out rfl
        rw [HN.out] at h30
        have H60 := Lib.hid h60; have H60' := Lib.hid h60'
        clear h60 h60' HGF HGF'
        go_enter Tryd.func5, Tryd.ntmps5
        go_wp2_with fail
        refine HG.out.mono ?_
        rintro _ _ ⟨rfl, rfl⟩
        go_wp2_with fail
        refine HG'.out.mono ?_
        rintro _ _ ⟨rfl, rfl⟩
        go_wp2_with fail
        go_loopg [5, 6] n (fun gk s5 s6 wr => ∃ (i : Nat) (q : Bool), i + gk = n ∧ s6 = .int .i64 (i : Int) ∧ s5 = .bool q ∧ Hid (decide (ds.take i = es.take i) = q) ∧ Hid (Below w.heap.size w wr))
        case atStart => exact ⟨0, true, by omega, rfl, rfl, Lib.hid (by simp), Lib.hid (Below.refl _ _)⟩
        case round =>
          obtain ⟨i, q, hig, rfl, rfl, hqd, hb⟩ := hrel
          cases gk with
          | succ gk =>
            have hin2 : i < n := by omega
            have hii : (i : Int) < (n : Int) := by omega
            obtain ⟨x, hx⟩ : ∃ x, ds[i]? = some x := ⟨_, List.getElem?_eq_getElem (by rw [HN.out]; exact hin2)⟩
            obtain ⟨y, hy⟩ : ∃ y, es[i]? = some y := ⟨_, List.getElem?_eq_getElem (by rw [HM.out]; exact hin2)⟩
            obtain ⟨bp, op, hAp, _⟩ := HP.out.plain (by rw [HN.out]; omega)
            obtain ⟨bq, oq, hAq, _⟩ := HQ.out.plain (by rw [HM.out]; omega)
            obtain ⟨ad, u, hAx, hcx, Ax, cx, hux, hcxx, hrx⟩ := (HP.out.next hb.out).at_ hx
            obtain ⟨ad', u', hAy, hcy, Ay, cy, huy, hcyy, hry⟩ := (HQ.out.next hb.out).at_ hy
            subst hAp hAq
            injection hAx with hAx
            injection hAy with hAy
            subst hAx hAy hux huy
            rw [plain_add] at hcx hcy
            have hcx' := cell_regrown hcx; have hcy' := cell_regrown hcy
            have HTS := Lib.hid (tk_same hx hy)
            have HSM := Lib.hid fun (W : World) (hW : Below wr.heap.size wr W) => same_any Ax Ay x.length cx y.length cy x y W ((hrx.below hW).more hW.size) ((hry.below hW).more hW.size) (by have := H60.out x (List.mem_of_getElem? hx); omega)
            obtain ⟨r, hr⟩ : ∃ r, sameB x y = r := ⟨_, rfl⟩
            have YS : Hid (Yields wr.heap.size wr 24 #[.slice Ax x.length cx, .slice Ay y.length cy] (.bool r)) := Lib.hid fun W hW => (HSM.out W hW).mono fun e w' h => ⟨by rw [← hr]; exact h.1, h.2.below hW⟩
            have HR : Hid (decide (x = y) = r) := Lib.hid hr
            clear hcx hcy hrx hry hx hy hr HSM
            go_upto_region 7 with fail
            refine wp_region_quiet_below (by kernel_rfl) (by kernel_rfl) ?_
            cases q with
            | true =>
              repeat (go_big_quiet_step (first | (go_at_call 24; with_reducible exact YS.out.quiet _ _)))
              refine wpQuiet_nil ?_
              intro _ hw'
              obtain ⟨p, hw''⟩ := hw'
              subst hw''
              have HB2 := Lib.hid (hb.out.trans ((below_regrown wr p.d p.os).mono hb.out.size))
              have HQ2 : Hid (decide (ds.take (i + 1) = es.take (i + 1)) = r) := Lib.hid (by
                rw [← HR.out]
                have h1 := of_decide_eq_true hqd.out
                by_cases hxy : x = y
                · rw [decide_eq_true hxy]; exact decide_eq_true (HTS.out.1 ⟨h1, hxy⟩)
                · rw [decide_eq_false hxy]; exact decide_eq_false fun h => hxy (HTS.out.2 h).2)
              go_wp2_with fail
              go_roundg gk
              case measure => omega
              case rel => exact ⟨i + 1, r, by omega, by go_num, rfl, HQ2, HB2⟩
            | false =>
              repeat (go_big_quiet_step (first | (go_at_call 24; with_reducible exact YS.out.quiet _ _)))
              refine wpQuiet_nil ?_
              intro _ hw'
              obtain ⟨p, hw''⟩ := hw'
              subst hw''
              have HB2 := Lib.hid (hb.out.trans ((below_regrown wr p.d p.os).mono hb.out.size))
              have HQ2 : Hid (decide (ds.take (i + 1) = es.take (i + 1)) = false) := Lib.hid (decide_eq_false fun h => (of_decide_eq_false hqd.out) (HTS.out.2 h).1)
              go_wp2_with fail
              go_roundg gk
              case measure => omega
              case rel => exact ⟨i + 1, false, by omega, by go_num, rfl, HQ2, HB2⟩
          | zero =>
            obtain rfl : i = n := by omega
            clear hig
            have hin : ¬ (i : Int) < (i : Int) := by omega
            have HQD : Hid (decide (ds = es) = q) := Lib.hid (by
              have := hqd.out
              rwa [List.take_of_length_le (by rw [HN.out]; exact Nat.le_refl _), List.take_of_length_le (by rw [HM.out]; exact Nat.le_refl _)] at this)
            obtain ⟨V, hV⟩ : ∃ V, (bs (rootL ds)).toArray = V := ⟨_, rfl⟩
            obtain ⟨V', hV'⟩ : ∃ V, (bs (rootL es)).toArray = V := ⟨_, rfl⟩
            have HR1 : Hid (∀ W, Below w.heap.size w W → Calls Tryd.prog 12 #[.slice A i c] W fun e w' => e = .returned (.agg V) ∧ Below W.heap.size W w') := Lib.hid fun W hW => by
              have := root_any A i c ds W HN.out (by omega) (HP.out.next hW) HBT.out (fun l hl => by have := H60.out l hl; omega) (HT.out.next hW)
              unfold HashTo at this
              rw [hV] at this
              exact this
            have HR2 : Hid (∀ W, Below w.heap.size w W → Calls Tryd.prog 12 #[.slice A' i c'] W fun e w' => e = .returned (.agg V') ∧ Below W.heap.size W w') := Lib.hid fun W hW => by
              have := root_any A' i c' es W HM.out (by omega) (HQ.out.next hW) HBT'.out (fun l hl => by have := H60'.out l hl; omega) (HT.out.next hW)
              unfold HashTo at this
              rw [hV'] at this
              exact this
            have HAWK := Lib.hid fun (W : World) (hW : Below w.heap.size w W) => awake19_any W (HT.out.next hW)
            obtain ⟨r, hr⟩ : ∃ r, decide (rootL ds = rootL es) = r := ⟨_, rfl⟩
            have HE : Hid (∀ W, (binOp .eql 31 (.agg V) (.agg V')).run Tryd.prog W = .ok (.bool r) W) := Lib.hid fun W => by
              have := eqlD W (rootL ds) (rootL es) (rootL_len _) (rootL_len _)
              rw [hV, hV', hr] at this
              exact this
            have HRD := Lib.hid hr
            have HB0 := hb
            clear hV hV' hr hb hqd HG HG'
            go_wp2_with fail
            refine (HR1.out _ HB0.out).mono ?_
            rintro _ w1 ⟨rfl, hb1⟩
            have HB1 := Lib.hid (HB0.out.trans (hb1.mono HB0.out.size))
            clear hb1
            go_wp2_with fail
            refine (HR2.out _ HB1.out).mono ?_
            rintro _ w2 ⟨rfl, hb2⟩
            have HB2 := Lib.hid (HB1.out.trans (hb2.mono HB1.out.size))
            clear hb2
            cases q with
            | true =>
              have hrt : r = true := by rw [← HRD.out, of_decide_eq_true HQD.out]; simp
              subst hrt
              go_wp2_with (refine wpList_bin (by rfl) .eql 31 _ (.tmp 40) (.tmp 42) rfl V V' rfl rfl hash_guard _ HE.out ?_)
              refine (HR1.out _ HB2.out).mono ?_
              rintro _ w3 ⟨rfl, hb3⟩
              have HB3 := Lib.hid (HB2.out.trans (hb3.mono HB2.out.size))
              clear hb3
              go_wp2_with fail
              refine (HR2.out _ HB3.out).mono ?_
              rintro _ w4 ⟨rfl, hb4⟩
              have HB4 := Lib.hid (HB3.out.trans (hb4.mono HB3.out.size))
              clear hb4
              go_wp2_with (refine wpList_bin (by rfl) .eql 31 _ (.tmp 58) (.tmp 60) rfl V V' rfl rfl hash_guard _ HE.out ?_)
              refine (HAWK.out _ HB4.out).mono ?_
              rintro _ w5 ⟨rfl, hb5⟩
              have HB5 := Lib.hid (HB4.out.trans (hb5.mono HB4.out.size))
              clear hb5
              go_wp2_with fail
              go_ret
              exact ⟨rfl, HB5.out⟩
            | false =>
              cases r with
              | false =>
                go_wp2_with (refine wpList_bin (by rfl) .eql 31 _ (.tmp 40) (.tmp 42) rfl V V' rfl rfl hash_guard _ HE.out ?_)
                refine (HR1.out _ HB2.out).mono ?_
                rintro _ w3 ⟨rfl, hb3⟩
                have HB3 := Lib.hid (HB2.out.trans (hb3.mono HB2.out.size))
                clear hb3
                go_wp2_with fail
                refine (HR2.out _ HB3.out).mono ?_
                rintro _ w4 ⟨rfl, hb4⟩
                have HB4 := Lib.hid (HB3.out.trans (hb4.mono HB3.out.size))
                clear hb4
                go_wp2_with (refine wpList_bin (by rfl) .eql 31 _ (.tmp 58) (.tmp 60) rfl V V' rfl rfl hash_guard _ HE.out ?_)
                refine (HAWK.out _ HB4.out).mono ?_
                rintro _ w5 ⟨rfl, hb5⟩
                have HB5 := Lib.hid (HB4.out.trans (hb5.mono HB4.out.size))
                clear hb5
                go_wp2_with fail
                go_ret
                exact ⟨rfl, HB5.out⟩
              | true =>
                obtain ⟨i0, hi0, hz0, hz1, hz2⟩ := info_parts info_bytes
                have hne : ds ≠ es := of_decide_eq_false HQD.out
                have hre : rootL ds = rootL es := of_decide_eq_true HRD.out
                have HCL := Lib.hid (clashIn_of (clash_tells i ds es HN.out HM.out hne hre))
                have hT1 := (textsD_count i ds HN.out).1
                have hT2 := (textsD_count i es HM.out).1
                have HB1' : Hid (∀ t ∈ textsD ds ++ textsD es, ∀ b ∈ t, b < 256) := Lib.hid fun t ht => by
                  rcases List.mem_append.1 ht with h | h
                  · exact textsD_byte i ds HN.out HBT.out t h
                  · exact textsD_byte i es HM.out HBT'.out t h
                have HL1' : Hid (∀ t ∈ textsD ds ++ textsD es, t.length ≤ 1000000) := Lib.hid fun t ht => by
                  rcases List.mem_append.1 ht with h | h
                  · have := textsD_long 65 (by omega) i ds HN.out (fun d hd => by have := H60.out d hd; omega) t h; omega
                  · have := textsD_long 65 (by omega) i es HM.out (fun d hd => by have := H60'.out d hd; omega) t h; omega
                have HT1 := Lib.hid (refTexts_any i ds A c w2 HN.out (by omega) (HP.out.next HB2.out) HBT.out (fun l hl => by have := H60.out l hl; omega) hc)
                have HT2 := Lib.hid fun (W : World) (hW : Below w2.heap.size w2 W) => refTexts_any i es A' c' W HM.out (by omega) (HQ.out.next (HB2.out.trans (hW.mono HB2.out.size))) HBT'.out (fun l hl => by have := H60'.out l hl; omega) hc'
                obtain ⟨t1, ht1⟩ : ∃ t1, textsD ds = t1 := ⟨_, rfl⟩
                obtain ⟨t2, ht2⟩ : ∃ t2, textsD es = t2 := ⟨_, rfl⟩
                rw [ht1] at HCL hT1 HB1' HL1' HT1
                rw [ht2] at HCL hT2 HB1' HL1' HT2
                obtain ⟨T, hT⟩ : ∃ T, t1 ++ t2 = T := ⟨_, rfl⟩
                have hTl : T.length ≤ 10000 := by rw [← hT, List.length_append]; omega
                rw [hT] at HCL HB1' HL1'
                have HTT := Lib.hid hT
                clear hne hre ht1 ht2 hT
                go_wp2_with (refine wpList_bin (by rfl) .eql 31 _ (.tmp 40) (.tmp 42) rfl V V' rfl rfl hash_guard _ HE.out ?_)
                refine HT1.out.mono ?_
                rintro _ w3 ⟨v3, vs3, rfl, R3, hb3⟩
                obtain ⟨A3, c3, rfl, _, _, _⟩ := own_slice R3.1
                have HR3 := Lib.hid R3; have HB3 := Lib.hid hb3
                clear R3 hb3
                go_wp2_with fail
                refine (HT2.out _ HB3.out).mono ?_
                rintro _ w4 ⟨v4, vs4, rfl, R4, hb4⟩
                obtain ⟨A4, c4, rfl, _, _, hr4⟩ := own_slice R4.1
                have HR3' := Lib.hid (HR3.out.next hb4)
                have HB4 := Lib.hid (HB3.out.trans (hb4.mono HB3.out.size))
                have HU4 : Hid (Each (TextIn w4 w2.heap.size (Value.slice A3 t1.length c3).ownBlock) vs4 t2) := Lib.hid (R4.2.imp fun _ _ x => x.off HB3.out.size (fun g hg => (HR3.out.1.lt g hg).2))
                have HO4 := Lib.hid R4.one; have HRD4 := Lib.hid hr4
                clear R4 hb4 hr4
                go_wp2_with (at_builtin
                             refine wpList_append_any _ rfl (.tmp 49) (.tmp 51) _ rfl w2.heap.size 37 i0 _ 1 24 Tryd.underlying22 hi0 hz0 hz1 hz2 rfl (by omega) (.slice A3 t1.length c3) t1.length vs3 rfl
                               HR3'.out.1 w4.heap.size A4 t2.length c4 vs4 rfl HRD4.out HO4.out (by unfold maxLen; omega) (by omega) HB4.out.size ?_
                             intro v5 w5 hown5 hg5 hat5
                             have R5 : RowT w5 w2.heap.size v5 (vs3 ++ vs4) T := by rw [← HTT.out]; exact HR3'.out.app HU4.out (by rw [List.length_append]) hown5 hg5 hat5
                             have B5 := HB4.out.grown hg5 HB4.out.size (fun g hg => (HR3'.out.1.lt g hg).1)
                             obtain ⟨A5, c5, e5, _, _, _⟩ := own_slice R5.1
                             subst e5
                             have HR5 := Lib.hid R5; have HB5 := Lib.hid B5
                             clear hown5 hg5 hat5 R5 B5)
                refine (clash_any A5 T.length c5 T w5 rfl hTl HR5.out.lc HB1'.out HL1'.out HCL.out).mono ?_
                rintro _ w6 ⟨rfl, hb6⟩
                have HB6 := Lib.hid ((HB2.out.trans (HB5.out.mono HB2.out.size)).trans (hb6.mono (Nat.le_trans HB2.out.size HB5.out.size)))
                clear hb6
                go_wp2_with fail
                refine (HAWK.out _ HB6.out).mono ?_
                rintro _ w7 ⟨rfl, hb7⟩
                have HB7 := Lib.hid (HB6.out.trans (hb7.mono HB6.out.size))
                clear hb7
                go_wp2_with fail
                go_ret
                exact ⟨rfl, HB7.out⟩
      · have hnm' : ¬ (n : Int) = (m : Int) := by omega
        go_enter Tryd.func5, Tryd.ntmps5
        go_wp2_with fail
        refine HG.out.mono ?_
        rintro _ _ ⟨rfl, rfl⟩
        go_wp2_with fail
        refine HG'.out.mono ?_
        rintro _ _ ⟨rfl, rfl⟩
        go_wp2_with fail
        refine HAW.out.mono ?_
        rintro _ w2 ⟨rfl, hb⟩
        go_wp2_with fail
        go_ret
        exact ⟨rfl, hb⟩
end Go.Proofs.YtkopoepoinkpeaaDoor
