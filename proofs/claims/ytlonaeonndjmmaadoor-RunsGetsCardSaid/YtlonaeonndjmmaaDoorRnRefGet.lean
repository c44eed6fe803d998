/- The document's reading of runs: the numbers, or the error's number. -/
import Derived.BigQuiet
import Derived.Test.YtlonaeonndjmmaaDoorRnRead
import Derived.Test.YtlonaeonndjmmaaDoorRfFar
import Derived.Test.YtlonaeonndjmmaaDoorRefVar
import Derived.Test.YtlonaeonndjmmaaDoorRefEnd
import Derived.Test.YtlonaeonndjmmaaDoorRefZag
import Derived.Test.YtlonaeonndjmmaaDoorI64Row
namespace Go.Proofs.YtlonaeonndjmmaaDoor
open Go.RowKit
set_option linter.unusedVariables false
set_option linter.unusedSimpArgs false
set_option maxRecDepth 100000

def lenOf : Value → Nat | .slice _ n _ => n | _ => 0
theorem refRnGet_no (A : Option Addr) (n c : Nat) (b : List Nat) (k : Int) (w : World) (h : k < 0 ∨ 65536 < k) :
    Calls Tryd.prog 7 #[.slice A n c, .int .i64 k] w (NewLE w (rS b k) (rE b k)) := by
  have h1 : rE b k = 1 := by unfold rE; rw [if_pos h]
  have h2 : rS b k = [] := by unfold rS; rw [if_neg (by omega)]
  rw [h1, h2]
  clear h1 h2
  by_cases hk : k < 0
  · clear h
    go_enter Tryd.func7, Tryd.ntmps7
    go_wp2_with fail
    go_ret2
    exact ⟨.slice none 0 0, rfl, own_nil _ _ _ _, Below.refl _ _⟩
  · have d1 : decide (k < 0) = false := by simp; omega
    have h2 : 65536 < k := by omega
    clear h
    go_enter Tryd.func7, Tryd.ntmps7
    go_wp2_with fail
    go_ret2
    exact ⟨.slice none 0 0, rfl, own_nil _ _ _ _, Below.refl _ _⟩
theorem xvarK_even {w : World} {g : Nat} {b : List Nat} {k : Nat} (h : RfS w g b (vst b (2 * k)).1 (vst b (2 * k)).2) :
    Calls Tryd.prog 15 #[.pointer (some ⟨g, 0, none⟩)] w fun e w' => e = .returned (.int .u64 (how b k : Int)) ∧ RfS w' g b (vst b (2 * k + 1)).1 (vst b (2 * k + 1)).2 ∧ w.grownBy w' (some g) := rvar_is h
theorem xvarK_odd {w : World} {g : Nat} {b : List Nat} {k : Nat} (h : RfS w g b (vst b (2 * k + 1)).1 (vst b (2 * k + 1)).2) :
    Calls Tryd.prog 15 #[.pointer (some ⟨g, 0, none⟩)] w fun e w' => e = .returned (.int .u64 (vv b (2 * k + 1) : Int)) ∧ RfS w' g b (vst b (2 * k + 2)).1 (vst b (2 * k + 2)).2 ∧ w.grownBy w' (some g) := rvar_is h
theorem xzagK {b : List Nat} (k : Nat) (w : World) (hv : vv b (2 * k + 1) < 18446744073709551616) :
    Calls Tryd.prog 16 #[.int .u64 (vv b (2 * k + 1) : Int)] w fun e w' => e = .returned (.int .i64 (num b k)) ∧ w = w' := refZag_any _ w hv
theorem expd_last {b : List Nat} {k : Nat} (h : 0 < k) : (expd (rr b k))[tot b k - 1]? = some (ahd b k) := by
  obtain ⟨j, rfl⟩ : ∃ j, k = j + 1 := ⟨k - 1, by omega⟩
  rw [ahd_succ]
  unfold tot
  rw [← List.getLast?_eq_getElem?, rr_succ, expd_append, expd_one, List.replicate_succ', ← List.append_assoc, List.getLast?_concat]
theorem r_bad {b : List Nat} {N k : Nat} {c : Int} (hk : k ≤ rK b N) (hlt : tot b k < N) (hb : rBad b N k = c) (h0 : c ≠ 0) : rEnd b N = c := by
  have e : k = rK b N := by
    rcases Nat.lt_or_ge k (rK b N) with h | h
    · have := (rK_go h).2
      omega
    · omega
  unfold rEnd
  rw [← e, if_pos hlt, hb]
/-- What stands behind so many rounds: the reader, the numbers read. -/
def Read9 (w wr : World) (b : List Nat) (k : Nat) (out : Value) : Prop :=
  RfS wr w.heap.size b (vst b (2 * k)).1 (vst b (2 * k)).2 ∧ wr.ownsRow (w.heap.size + 1) 2 1 out (tot b k) (zs (expd (rr b k))) ∧ Below w.heap.size w wr
set_option maxHeartbeats 4000000 in
theorem refRnGet_ok (A : Option Addr) (n c N : Nat) (b : List Nat) (w : World) (hr : Reads w w.heap.size 1 A n (bs b)) (hb : ∀ x ∈ b, x < 256) (hnc : n ≤ c) (hn : n ≤ 140737488355328) (hN : N ≤ 65536) :
    Calls Tryd.prog 7 #[.slice A n c, .int .i64 (N : Int)] w (NewLE w (rS b (N : Int)) (rE b (N : Int))) := by
  obtain ⟨i1, hi1, hy0, hy1, hy2⟩ := info_parts info_i64
  have d1 : decide ((N : Int) < 0) = false := by simp
  have d2 : decide ((65536 : Int) < (N : Int)) = false := by simp; omega
  have hS1 := rf_new hr hnc hn hb
  have hrE : rE b (N : Int) = rEnd b N := by unfold rE; rw [if_neg (by omega), Int.toNat_natCast]
  have hrS : rS b (N : Int) = if rEnd b N = 0 then expd (rr b (rK b N)) else [] := by unfold rS; rw [hrE, Int.toNat_natCast]
  have errEnd : ∀ c : Int, rEnd b N = c → c ≠ 0 → ∀ wx, Below w.heap.size w wx → NewLE w (rS b (N : Int)) (rE b (N : Int)) (.returned (.tuple #[.slice none 0 0, .int .i64 c])) wx := by
    intro c h1 h2 wx hbx
    rw [hrS, hrE, h1, if_neg h2]
    exact ⟨_, rfl, own_nil _ _ _ _, hbx⟩
  have HE := Lib.hid hrE; have HS := Lib.hid hrS; have HERR := Lib.hid errEnd
  have HB := Lib.hid hb
  have hwN : IntKind.u64.wrap (N : Int) = (N : Int) := IntWalk.u64_in _ (by omega)
  clear hb hrE hrS errEnd
  go_enter Tryd.func7, Tryd.ntmps7
  go_wp2_with fail
  go_loopw [7] (fun s7 wr => ∃ k : Nat, k ≤ rK b N ∧ Read9 w wr b k s7) (fun s _ => N - lenOf s)
  case atStart => exact ⟨0, Nat.zero_le _, hS1, own_nil _ _ _ _, (Below.refl _ _).alloc (Nat.le_refl _) _⟩
  case round =>
    clear hS1 hr
    obtain ⟨k, hk, hS, hown, hb⟩ := hrel
    obtain ⟨hx, hle⟩ := rK_none (b := b) (N := N) k hk
    obtain ⟨A0, c0, rfl, _, _, _⟩ := own_slice hown
    have hblk := hown.lt
    by_cases hlt : tot b k < N
    · have hH := vv_lt HB.out (2 * k)
      have hV := vv_lt HB.out (2 * k + 1)
      go_wp2_with fail
      refine (xvarK_even hS).mono ?_
      rintro e w1 ⟨rfl, hS1, hg1⟩
      go_wp2_with fail
      refine (xvarK_odd hS1).mono ?_
      rintro e w2 ⟨rfl, hS2, hg2⟩
      go_wp2_with fail
      refine (xzagK k w2 hV).mono ?_
      rintro e w' ⟨rfl, rfl⟩
      have hg02 := hg1.trans hg2
      have hown2 := hown.kept hg02 (by
        cases ho : (Value.slice A0 (tot b k) c0).ownBlock with
        | none => exact .inl rfl
        | some j => refine .inr fun e => ?_
                    injection e with e
                    have := (hblk j ho).1
                    omega)
      have hb2 : Below w.heap.size w w2 := hb.grown hg02 hb.size (fun j hj => by injection hj with hj; omega)
      have hsz : w.heap.size + 1 ≤ w2.heap.size := by have := hS2.lt; omega
      have hc2 := hS2.cellE
      change how b k < 18446744073709551616 at hH
      clear hS hown hb hg1 hg2 hg02 hS1 hV hblk
      cases hx2 : (vst b (2 * k + 2)).2 with
      | some y =>
        have hy0 : y.1 ≠ 0 := vst_ok b _ y hx2
        have hbad : rBad b N k = y.1 := by unfold rBad; rw [hx2]
        have hc3 : w2.cell? ⟨w.heap.size, 2, none⟩ = some (.int .i64 y.1) := by rw [hc2, hx2]; rfl
        have FIN := Lib.hid (HERR.out y.1 (r_bad hk hlt hbad hy0) hy0)
        obtain ⟨r, hr⟩ : ∃ r, r = y.1 := ⟨_, rfl⟩
        rw [← hr] at hc3 FIN
        have q1 : (r != 0) = true := by rw [hr]; simp [hy0]
        clear hc2 hx2 hy0 hbad hr
        go_wp2_with fail
        go_quiet (fail)
        go_wp2_with fail
        go_ret2
        exact FIN.out _ ((Drawn.one w2 _).below hb2)
      | none =>
        have hc3 : w2.cell? ⟨w.heap.size, 2, none⟩ = some (.int .i64 0) := by rw [hc2, hx2]; rfl
        rw [hx2] at hS2
        have HX2 := Lib.hid hx2
        obtain ⟨V, hVd⟩ : ∃ V, num b k = V := ⟨_, rfl⟩
        obtain ⟨P, hPd⟩ : ∃ P, ahd b k = P := ⟨_, rfl⟩
        rw [hVd]
        have HV := Lib.hid hVd; have HPd := Lib.hid hPd
        clear hc2 hx2 hVd hPd
        by_cases hp : N - tot b k ≤ how b k
        · have FIN := Lib.hid (HERR.out 5 (r_bad hk hlt (by unfold rBad; rw [HX2.out]; simp only; rw [if_pos hp]) (by omega)) (by omega))
          by_cases hp2 : N ≤ how b k
          case' pos => have hp3 : decide ((N : Int) ≤ (how b k : Int)) = true := by simp; omega
          case' neg =>
            have hp3 : decide ((N : Int) ≤ (how b k : Int)) = false := by simp; omega
            have hw3 : IntKind.i64.wrap (how b k : Int) = (how b k : Int) := IntWalk.i64_in _ (by omega)
            have hp4 : decide ((N : Int) < (tot b k : Int) + (how b k : Int) + 1) = true := by simp; omega
          all_goals
            go_wp2_with fail
            go_ret2
            exact FIN.out _ hb2
        · have hp2 : ¬ N ≤ how b k := by omega
          have hp3 : decide ((N : Int) ≤ (how b k : Int)) = false := by simp; omega
          have hw3 : IntKind.i64.wrap (how b k : Int) = (how b k : Int) := IntWalk.i64_in _ (by omega)
          have hp4 : decide ((N : Int) < (tot b k : Int) + (how b k : Int) + 1) = false := by simp; omega
          have hp5 : ¬ N < tot b k + how b k + 1 := by omega
          rcases Nat.eq_zero_or_pos k with h0 | h0
          · have HQ : Hid (¬ (0 < k ∧ num b k = ahd b k)) := Lib.hid (by omega)
            have htn : ¬ 0 < tot b k := by rw [h0]; exact Nat.lt_irrefl _
            clear h0
            have hgo : rGo b N k := go_of hlt HX2.out hp HQ.out
            have hkK := rK_lt hk hgo
            have htk := (rK_none (b := b) (N := N) (k + 1) hkK).2
            rw [tot_succ] at htk
            have HT : Hid (expd (rr b (k + 1)) = expd (rr b k) ++ List.replicate (how b k + 1) V) := by
              rw [rr_succ, expd_append, expd_one, HV.out]; exact Lib.hid rfl
            have hTS : tot b (k + 1) = tot b k + (how b k + 1) := tot_succ b k
            have hxl : (expd (rr b k)).length = tot b k := rfl
            have hst : vst b (2 * (k + 1)) = vst b (2 * k + 2) := rfl
            have HST := Lib.hid hst; have HTS := Lib.hid hTS
            rw [← hst] at hS2
            obtain ⟨at_, hat⟩ : ∃ at_, at_ = (vst b (2 * (k + 1))).1 := ⟨_, rfl⟩
            rw [← hat] at hS2
            have HAT := Lib.hid hat
            clear hst hat hgo hTS
            go_wp2_with fail
            go_loopw [7, 10] (fun s7 s10 wi => ∃ j : Nat, j ≤ how b k + 1 ∧ s10 = .int .i64 (j : Int) ∧ wi.ownsRow (w.heap.size + 1) 2 1 s7 (tot b k + j) (zs (expd (rr b k) ++ List.replicate j V)) ∧ RfS wi w.heap.size b at_ none ∧ Below w.heap.size w wi) (fun _ i _ => how b k + 1 - (intOf i).toNat)
            case atStart => exact ⟨0, Nat.zero_le _, rfl, by simpa using hown2, hS2, hb2⟩
            case round =>
              clear hown2 hS2 hb2 hc3
              obtain ⟨j, hj, rfl, hown, hS, hb⟩ := hrel
              obtain ⟨Aj, cj, rfl, _, _, _⟩ := own_slice hown
              have hszj : w.heap.size + 1 ≤ wr.heap.size := by have := hS.lt; omega
              by_cases hjl : j ≤ how b k
              · go_wp2_with (at_builtin
                             refine wpList_append_any _ rfl (.tmp 73) (.tmp 75) _ rfl (w.heap.size + 1) 2 i1 _ 1 8 Tryd.underlying24 hi1 hy0 hy1 hy2 rfl (by omega) (.slice Aj (tot b k + j) cj) (tot b k + j) (zs (expd (rr b k) ++ List.replicate j V)) rfl
                               (hown.alloc _) (wr.heap.size + 1) (some ⟨wr.heap.size, 0, none⟩) 1 1 [.int .i64 V] rfl (Reads.new wr _ _) (one_int _ _) (by unfold maxLen; omega) (by omega) (by simp; omega) ?_
                             intro v4 w4 hown4 hg4 hat4)
                go_round
                case rel =>
                  refine ⟨j + 1, by omega, by go_num, ?_, (hS.alloc _).grown hg4 (fun q hq => by have := (hown.lt q hq).1; omega), below_app hb (own_base hown (by omega)) hb.size hg4⟩
                  rw [List.replicate_succ', ← List.append_assoc, ← zs_snoc]
                  exact hown4
                case measure => simp [intOf]; omega
              · obtain rfl : j = how b k + 1 := by omega
                go_wp2_with fail
                go_round
                case rel =>
                  refine ⟨k + 1, hkK, ?_, ?_, hb⟩
                  · rw [← HAT.out, HST.out, HX2.out]; exact hS
                  · rw [HT.out, HTS.out]; exact hown
                case measure => simp [lenOf]; omega
          · have htn : 0 < tot b k := by have := tot_ge b k; omega
            obtain ⟨t1, ht1⟩ : ∃ t1, t1 = tot b k - 1 := ⟨_, rfl⟩
            have hl1 := expd_last (b := b) h0
            rw [← ht1, HPd.out] at hl1
            have htl : t1 < tot b k := by omega
            have hwt : IntKind.i64.wrap ((tot b k : Int) - 1) = (t1 : Int) := by rw [IntWalk.i64_in _ (by omega)]; omega
            obtain ⟨g0, rfl⟩ : ∃ g0, A0 = some ⟨g0, 0, none⟩ := by
              rcases hown2.2 with ⟨_, h1⟩ | ⟨g0, cap, cur, hv, _⟩
              · omega
              · injection hv with a1 a2 a3
                exact ⟨g0, a1⟩
            have cl := hown2.cellAt t1 (by omega)
            rw [show (zs (expd (rr b k)))[t1]? = some (.int .i64 P) by unfold zs; rw [List.getElem?_map, hl1]; rfl] at cl
            clear ht1 hl1
            by_cases hq : V = P
            · subst hq
              have FIN := Lib.hid (HERR.out 4 (r_bad hk hlt (by unfold rBad; rw [HX2.out]; simp only; rw [if_neg hp, if_pos ⟨h0, HV.out.trans HPd.out.symm⟩]) (by omega)) (by omega))
              clear h0
              go_wp2_with fail
              go_ret2
              exact FIN.out _ hb2
            · have g1 : (P == V) = false := by simp [Ne.symm hq]
              have hne : P ≠ V := fun e => hq e.symm
              have HQ : Hid (¬ (0 < k ∧ num b k = ahd b k)) := Lib.hid (fun h => hq (by rw [← HV.out, ← HPd.out]; exact h.2))
              clear h0 hq
              have hgo : rGo b N k := go_of hlt HX2.out hp HQ.out
              have hkK := rK_lt hk hgo
              have htk := (rK_none (b := b) (N := N) (k + 1) hkK).2
              rw [tot_succ] at htk
              have HT : Hid (expd (rr b (k + 1)) = expd (rr b k) ++ List.replicate (how b k + 1) V) := by
                rw [rr_succ, expd_append, expd_one, HV.out]; exact Lib.hid rfl
              have hTS : tot b (k + 1) = tot b k + (how b k + 1) := tot_succ b k
              have hxl : (expd (rr b k)).length = tot b k := rfl
              have hst : vst b (2 * (k + 1)) = vst b (2 * k + 2) := rfl
              have HST := Lib.hid hst; have HTS := Lib.hid hTS
              rw [← hst] at hS2
              obtain ⟨at_, hat⟩ : ∃ at_, at_ = (vst b (2 * (k + 1))).1 := ⟨_, rfl⟩
              rw [← hat] at hS2
              have HAT := Lib.hid hat
              clear hst hat hgo hTS
              go_wp2_with fail
              go_loopw [7, 10] (fun s7 s10 wi => ∃ j : Nat, j ≤ how b k + 1 ∧ s10 = .int .i64 (j : Int) ∧ wi.ownsRow (w.heap.size + 1) 2 1 s7 (tot b k + j) (zs (expd (rr b k) ++ List.replicate j V)) ∧ RfS wi w.heap.size b at_ none ∧ Below w.heap.size w wi) (fun _ i _ => how b k + 1 - (intOf i).toNat)
              case atStart => exact ⟨0, Nat.zero_le _, rfl, by simpa using hown2, hS2, hb2⟩
              case round =>
                clear hown2 hS2 hb2 hc3
                obtain ⟨j, hj, rfl, hown, hS, hb⟩ := hrel
                obtain ⟨Aj, cj, rfl, _, _, _⟩ := own_slice hown
                have hszj : w.heap.size + 1 ≤ wr.heap.size := by have := hS.lt; omega
                by_cases hjl : j ≤ how b k
                · go_wp2_with (at_builtin
                               refine wpList_append_any _ rfl (.tmp 73) (.tmp 75) _ rfl (w.heap.size + 1) 2 i1 _ 1 8 Tryd.underlying24 hi1 hy0 hy1 hy2 rfl (by omega) (.slice Aj (tot b k + j) cj) (tot b k + j) (zs (expd (rr b k) ++ List.replicate j V)) rfl
                                 (hown.alloc _) (wr.heap.size + 1) (some ⟨wr.heap.size, 0, none⟩) 1 1 [.int .i64 V] rfl (Reads.new wr _ _) (one_int _ _) (by unfold maxLen; omega) (by omega) (by simp; omega) ?_
                               intro v4 w4 hown4 hg4 hat4)
                  go_round
                  case rel =>
                    refine ⟨j + 1, by omega, by go_num, ?_, (hS.alloc _).grown hg4 (fun q hq => by have := (hown.lt q hq).1; omega), below_app hb (own_base hown (by omega)) hb.size hg4⟩
                    rw [List.replicate_succ', ← List.append_assoc, ← zs_snoc]
                    exact hown4
                  case measure => simp [intOf]; omega
                · obtain rfl : j = how b k + 1 := by omega
                  go_wp2_with fail
                  go_round
                  case rel =>
                    refine ⟨k + 1, hkK, ?_, ?_, hb⟩
                    · rw [← HAT.out, HST.out, HX2.out]; exact hS
                    · rw [HT.out, HTS.out]; exact hown
                  case measure => simp [lenOf]; omega
    · have hkK : k = rK b N := by
        rcases Nat.lt_or_ge k (rK b N) with h | h
        · exact absurd (go_is (rK_go h)).1 hlt
        · omega
      subst hkK
      have hE : rEnd b N = (endS b (vst b (2 * rK b N)).1 none).1 := by unfold rEnd; rw [if_neg hlt]
      rw [hx] at hS
      obtain ⟨r, hr0⟩ : ∃ r, r = (endS b (vst b (2 * rK b N)).1 none).1 := ⟨_, rfl⟩
      obtain ⟨o, ho⟩ : ∃ o : Int, o = ((endS b (vst b (2 * rK b N)).1 none).2 : Int) := ⟨_, rfl⟩
      have hcall : Calls Tryd.prog 17 #[.pointer (some ⟨w.heap.size, 0, none⟩)] wr fun e w' => e = .returned (.tuple #[.int .i64 r, .int .i64 o]) ∧ Drawn wr w' := by
        rw [hr0, ho]; exact rend_is hS
      have HC := Lib.hid hcall
      rw [← hr0] at hE
      have fin : ∀ wx : World, Drawn wr wx → r = 0 → NewLE w (rS b (N : Int)) (rE b (N : Int)) (.returned (.tuple #[.slice A0 (tot b (rK b N)) c0, .int .i64 0])) wx := by
        rintro wx hd h0
        rw [HS.out, HE.out, hE, h0, if_pos rfl]
        obtain ⟨q2, rfl⟩ := hd
        exact ⟨_, rfl, own_base (own_below hown (Drawn.below (Drawn.one wr q2) (Below.refl _ _))) (by omega), (Drawn.one wr q2).below hb⟩
      have FIN := Lib.hid fin
      have FERR := Lib.hid (fun h0 => HERR.out r hE h0)
      clear hcall hr0 ho hE fin hS hown hx hblk
      go_wp2_with fail
      refine HC.out.mono ?_
      rintro e wx ⟨rfl, hdx⟩
      by_cases h0 : r = 0
      · subst h0
        go_wp2_with fail
        go_ret2
        exact FIN.out wx hdx (by first | exact trivial | exact rfl)
      · have q1 : (r == 0) = false := by simp [h0]
        have q2 : (r != 0) = true := by simp [h0]
        have H0 := Lib.hid h0
        clear h0
        go_wp2_with fail
        go_ret2
        exact FERR.out H0.out wx (hdx.below hb)
theorem refRnGet_any (A : Option Addr) (n c : Nat) (k : Int) (b : List Nat) (w : World) (hr : Reads w w.heap.size 1 A n (bs b)) (hb : ∀ x ∈ b, x < 256) (hnc : n ≤ c) (hn : n ≤ 140737488355328) :
    Calls Tryd.prog 7 #[.slice A n c, .int .i64 k] w (NewLE w (rS b k) (rE b k)) := by
  by_cases h : k < 0 ∨ 65536 < k
  · exact refRnGet_no A n c b k w h
  · obtain ⟨N, rfl⟩ : ∃ N : Nat, k = (N : Int) := ⟨k.toNat, by omega⟩
    exact refRnGet_ok A n c N b w hr hb hnc hn (by omega)
end Go.Proofs.YtlonaeonndjmmaaDoor
