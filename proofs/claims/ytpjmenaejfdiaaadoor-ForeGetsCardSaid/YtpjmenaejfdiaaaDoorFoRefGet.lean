/- The document's reading of the form by the least one: the numbers, or the error's number. -/
import Derived.Deep.QuietTactic
import Derived.BigQuiet
import Derived.Laws.OwnMore
import Derived.Test.YtpjmenaejfdiaaaDoorRefWid
import Derived.Test.YtpjmenaejfdiaaaDoorJ26
import Derived.Test.YtpjmenaejfdiaaaDoorJ11
import Derived.Test.YtpjmenaejfdiaaaDoorJ12
import Derived.Test.YtpjmenaejfdiaaaDoorRfFar
import Derived.Test.YtpjmenaejfdiaaaDoorRVar0
import Derived.Test.YtpjmenaejfdiaaaDoorRefFix
import Derived.Test.YtpjmenaejfdiaaaDoorRefZag
import Derived.Test.YtpjmenaejfdiaaaDoorRefUnpack
import Derived.Test.YtpjmenaejfdiaaaDoorJ16
namespace Go.Proofs.YtpjmenaejfdiaaaDoor
open Go.RowKit
set_option linter.unusedVariables false
set_option linter.unusedSimpArgs false
set_option maxRecDepth 100000

theorem refFoGet_no (A : Option Addr) (n c : Nat) (b : List Nat) (k : Int) (w : World) (h : k < 0 ∨ 65536 < k) :
    Calls Tryd.prog 7 #[.slice A n c, .int .i64 k] w (NewLE w (fG b k) (fE b k)) := by
  obtain ⟨h1, h2⟩ := fE_bad (b := b) h
  rw [h1, h2]
  clear h1 h2
  by_cases hk : k < 0
  · clear h
    go_enter Tryd.func7, Tryd.ntmps7
    go_wp2_with fail
    go_ret2
    exact ⟨.slice none 0 0, rfl, own_nil _ _ _ _, Below.refl _ _⟩
  · have d1 : decide (k < 0) = false := by simp; omega
    have h2 : 65536 < k := by omega
    clear h
    go_enter Tryd.func7, Tryd.ntmps7
    go_wp2_with fail
    go_ret2
    exact ⟨.slice none 0 0, rfl, own_nil _ _ _ _, Below.refl _ _⟩
theorem refFoGet_zero (A : Option Addr) (n c : Nat) (b : List Nat) (w : World) (hr : Reads w w.heap.size 1 A n (bs b)) :
    Calls Tryd.prog 7 #[.slice A n c, .int .i64 0] w (NewLE w (fG b 0) (fE b 0)) := by
  have e1 : b.length = n := by have := hr.1; rw [bs_length] at this; omega
  have hE := fE_zero b
  rw [e1] at hE
  by_cases h : 0 < n
  · rw [if_pos h] at hE
    have hG : fG b 0 = [] := fG_zero b
    rw [hE, hG]
    clear hE hG e1
    go_enter Tryd.func7, Tryd.ntmps7
    go_wp2_with fail
    go_ret2
    exact ⟨.slice none 0 0, rfl, own_nil _ _ _ _, Below.refl _ _⟩
  · rw [if_neg h] at hE
    have hG : fG b 0 = [] := fG_zero b
    rw [hE, hG]
    clear hE hG e1
    go_enter Tryd.func7, Tryd.ntmps7
    go_wp2_with fail
    go_ret2
    exact ⟨.slice none 0 0, rfl, own_nil _ _ _ _, Below.refl _ _⟩
set_option maxHeartbeats 2000000 in
theorem refFoGet_err (A : Option Addr) (n c N : Nat) (b : List Nat) (y : Int × Nat) (w : World) (hr : Reads w w.heap.size 1 A n (bs b)) (hb : ∀ x ∈ b, x < 256) (hnc : n ≤ c) (hn : n ≤ 140737488355328) (hN : 1 ≤ N ∧ N ≤ 65536) (hx : (vst b 1).2 = some y) :
    Calls Tryd.prog 7 #[.slice A n c, .int .i64 (N : Int)] w (NewLE w (fG b (N : Int)) (fE b (N : Int))) := by
  have hE := fE_err b N y hN hx
  have hy := vst_ok b 1 y hx
  have hG : fG b (N : Int) = [] := by unfold fG; rw [hE, if_neg hy]
  rw [hE, hG]
  have d1 : decide ((N : Int) < 0) = false := by simp
  have d2 : decide ((65536 : Int) < (N : Int)) = false := by simp; omega
  have q0 : ((N : Int) == 0) = false := by simp; omega
  have hS1 := rf_new hr hnc hn hb
  have hv0 := vv_lt hb 0
  have HX := Lib.hid hx
  obtain ⟨y1, hy1⟩ : ∃ r, r = y.1 := ⟨_, rfl⟩
  rw [← hy1] at hy ⊢
  have HY := Lib.hid hy1
  have q1 : (y1 != 0) = true := by simp [hy]
  have q2 : (y1 == 0) = false := by simp [hy]
  clear hE hG hx hy1 hb hy
  go_enter Tryd.func7, Tryd.ntmps7
  go_wp2_with fail
  refine (rvar_0 hS1).mono ?_
  rintro e w3 ⟨rfl, hS3, hG3⟩
  have hb3 : Below w.heap.size w w3 := ((Below.refl _ _).alloc (Nat.le_refl _) _).grown hG3 (by simp) (fun j hj => by injection hj with hj; omega)
  rw [HX.out] at hS3
  clear hS1 hG3
  go_wp2_with fail
  refine (refZag_any (vv b 0) w3 hv0).mono ?_
  rintro e w' ⟨rfl, rfl⟩
  go_wp2_with fail
  refine (rfix_is 1 hS3).mono ?_
  rintro e w5 ⟨rfl, hS5, hG5⟩
  have hb5 : Below w.heap.size w w5 := hb3.grown hG5 hb3.size (fun j hj => by injection hj with hj; omega)
  have hf : fixS b (vst b 1).1 (some y) 1 = (0, (vst b 1).1, some y) := rfl
  rw [hf] at hS5 ⊢
  have hc2 : w5.cell? ⟨w.heap.size, 2, none⟩ = some (.int .i64 y1) := by have := hS5.cellE; rw [this, HY.out]; rfl
  clear hS5 hG5 hf hS3 hb3
  go_wp2_with fail
  go_quiet (fail)
  go_wp2_with fail
  go_ret2
  exact ⟨.slice none 0 0, rfl, own_nil _ _ _ _, (Drawn.one _ _).below hb5⟩
theorem up_step {m : Int} {L : List Nat} {k d : Nat} (h : L[k]? = some d) : zs (ups m (L.take k)) ++ [Value.int .i64 (m + (d : Int))] = zs (ups m (L.take (k + 1))) := by
  rw [take_snoc h, zs_snoc]
  unfold ups
  rw [List.map_append]
  rfl
theorem sum_fit {m : Int} {d : Nat} (hm : In64 m) (h : d ≤ roomI m) : wrap64 (IntKind.u64.wrap (IntKind.u64.wrap m + (d : Int))) = m + (d : Int) := by
  unfold In64 at hm
  unfold roomI at h
  rw [u64w, u64w, w64]
  omega
theorem sum_over {m : Int} {d : Nat} (hm : In64 m) (hd : d < 18446744073709551616) (h : ¬ d ≤ roomI m) : wrap64 (IntKind.u64.wrap (IntKind.u64.wrap m + (d : Int))) = m + (d : Int) - 18446744073709551616 := by
  unfold In64 at hm
  unfold roomI at h
  rw [u64w, u64w, w64]
  omega
set_option maxHeartbeats 4000000 in
theorem refFoGet_more (A : Option Addr) (n c N : Nat) (b : List Nat) (w : World) (hr : Reads w w.heap.size 1 A n (bs b)) (hb : ∀ x ∈ b, x < 256) (hnc : n ≤ c) (hn : n ≤ 140737488355328) (hN : 1 ≤ N ∧ N ≤ 65535) (hx : (vst b 1).2 = none) :
    Calls Tryd.prog 7 #[.slice A n c, .int .i64 (N : Int)] w (NewLE w (fG b (N : Int)) (fE b (N : Int))) := by
  obtain ⟨i1, hi1, hy0, hy1, hy2⟩ := info_parts info_i64
  have e1 : b.length = n := by have := hr.1; rw [bs_length] at this; omega
  have d1 : decide ((N : Int) < 0) = false := by simp
  have d2 : decide ((65536 : Int) < (N : Int)) = false := by simp; omega
  have q0 : ((N : Int) == 0) = false := by simp; omega
  have hE := fE_more b hb N (by omega) hx
  have hv0 := vv_lt hb 0
  have hM64 := fM_in hb
  have hS1 := rf_new hr hnc hn hb
  have hpl := vst_place b hb hx
  have hG : fG b (N : Int) = if fE b (N : Int) = 0 then ups (fM b) (fD b N) else [] := by unfold fG; rw [Int.toNat_natCast]
  have hL : fD b N = (rbS b (vst b 1).1 none (N : Int)).1 := by unfold fD; rw [if_neg (by omega), hx]; rfl
  have hM : zagI (vv b 0 : Int) = fM b := rfl
  obtain ⟨m, hm⟩ : ∃ m, m = fM b := ⟨_, rfl⟩
  rw [← hm] at hM64 hM hE hG
  obtain ⟨a1, ha1⟩ : ∃ a, a = (vst b 1).1 := ⟨_, rfl⟩
  rw [← ha1] at hE hL hpl
  obtain ⟨R, hR⟩ : ∃ R, R = fE b (N : Int) := ⟨_, rfl⟩
  rw [← hR] at hE hG ⊢
  have HX := Lib.hid hx; have HA := Lib.hid ha1; have HE := Lib.hid hE; have HG := Lib.hid hG; have HL := Lib.hid hL; have HB := Lib.hid hb; have E1 := Lib.hid e1; have HM := Lib.hid hM
  clear hx ha1 hE hG hL hb hR hM hm
  go_enter Tryd.func7, Tryd.ntmps7
  go_wp2_with fail
  refine (rvar_0 hS1).mono ?_
  rintro e w3 ⟨rfl, hS3, hG3⟩
  have hb3 : Below w.heap.size w w3 := ((Below.refl _ _).alloc (Nat.le_refl _) _).grown hG3 (by simp) (fun j hj => by injection hj with hj; omega)
  rw [HX.out, ← HA.out] at hS3
  have hz3 : w.heap.size < w3.heap.size := hS3.lt
  clear hS1 hG3
  go_wp2_with fail
  refine (refZag_any (vv b 0) w3 hv0).mono ?_
  rintro e w' ⟨rfl, rfl⟩
  rw [HM.out]
  go_wp2_with fail
  refine (rfix_is 1 hS3).mono ?_
  rintro e w5 ⟨rfl, hS5, hG5⟩
  have hb5 : Below w.heap.size w w5 := hb3.grown hG5 hb3.size (fun j hj => by injection hj with hj; omega)
  clear hb3 hS3 hG5
  cases hat : b[a1]? with
  | none =>
    have hae : a1 = n := by have := List.getElem?_eq_none_iff.1 hat; omega
    have hR2 : R = 2 := by rw [HE.out]; unfold raE rbE; rw [hat]; rfl
    have hf : fixS b a1 none 1 = (0, a1, some (2, a1)) := by unfold fixS; simp only; rw [if_neg (by omega), if_pos (by omega)]
    rw [hf] at hS5 ⊢
    have hc5 : w5.cell? ⟨w.heap.size, 2, none⟩ = some (.int .i64 2) := hS5.cellE
    have hG0 := HG.out
    rw [hR2, if_neg (by omega)] at hG0
    subst hR2
    have HG0 := Lib.hid hG0
    clear hat hf hG0 hae hS5
    go_wp2_with fail
    go_quiet (fail)
    go_wp2_with fail
    go_ret2
    rw [HG0.out]
    exact ⟨.slice none 0 0, rfl, own_nil _ _ _ _, (Drawn.one _ _).below hb5⟩
  | some v =>
    rw [fix_byte b a1 v hat] at hS5 ⊢
    have hv256 := HB.out v (List.mem_of_getElem? hat)
    have hal : a1 + 1 ≤ n := by have := (List.getElem?_eq_some_iff.1 hat).1; omega
    have hc5 : w5.cell? ⟨w.heap.size, 2, none⟩ = some (.int .i64 0) := hS5.cellE
    have hc51 : w5.cell? ⟨w.heap.size, 1, none⟩ = some (.int .i64 ((a1 : Int) + 1)) := by have := hS5.cell1; simpa using this
    by_cases h64 : 64 < v
    · have hRv : R = 5 := by
        rw [HE.out]; unfold raE rbE; rw [hat]; simp only; rw [if_pos h64]; rfl
      have hG0 := HG.out
      rw [hRv, if_neg (by omega)] at hG0
      subst hRv
      have HG0 := Lib.hid hG0
      clear hat hG0
      go_wp2_with fail
      go_ret2
      rw [HG0.out]
      exact ⟨.slice none 0 0, rfl, own_nil _ _ _ _, hb5⟩
    · have hrb : (rbS b a1 none (N : Int)).1 = unpackS (b.drop (a1 + 1)) (N : Int) v := by rw [rb_rest b a1 v (N : Int) hat h64]
      have hRv : R = if unpackE (b.drop (a1 + 1)) (N : Int) v = 0 then (if wd (unpackS (b.drop (a1 + 1)) (N : Int) v) = v ∧ fitB m (unpackS (b.drop (a1 + 1)) (N : Int) v) = true then 0 else 4) else (unpackE (b.drop (a1 + 1)) (N : Int) v : Int) := by
        rw [HE.out]
        unfold raE rbE
        rw [hat, hrb]
        simp only
        rw [if_neg h64]
        by_cases h1 : unpackE (b.drop (a1 + 1)) (N : Int) v = 0
        · rw [if_pos h1, if_pos h1]
          by_cases h2 : wd (unpackS (b.drop (a1 + 1)) (N : Int) v) = v
          · rw [if_pos h2, if_pos rfl]
            by_cases h3 : fitB m (unpackS (b.drop (a1 + 1)) (N : Int) v) = true
            · rw [if_pos h3, if_pos ⟨h2, h3⟩]
            · rw [if_neg h3, if_neg (fun h => h3 h.2)]
          · rw [if_neg h2, if_neg (by omega), if_neg (fun h => h2 h.1)]
        · rw [if_neg h1, if_neg h1, if_neg (by omega)]
      obtain ⟨t, ht⟩ : ∃ t, t = b.drop (a1 + 1) := ⟨_, rfl⟩
      obtain ⟨a2, ha2⟩ : ∃ a2, a2 = a1 + 1 := ⟨_, rfl⟩
      have hcut : Reads w5 w5.heap.size 1 (if c = a2 then A else Option.map (fun x => x.add a2) A) (n - a2) (bs t) := by
        have h1 := ((hr.below hb5).more hb5.size).cut (k := a2) (cap := c) (by omega) hnc
        simp only [Nat.mul_one] at h1
        rwa [bs_drop, ha2, ← ht, ← ha2] at h1
      have htb : ∀ x ∈ t, x < 256 := fun x hx => HB.out x (List.mem_of_mem_drop (by rw [← ht]; exact hx))
      rw [← ht] at hRv hrb
      have hc52 : w5.cell? ⟨w.heap.size, 1, none⟩ = some (.int .i64 (a2 : Int)) := by rw [hc51, ha2]; rfl
      have ha2n : a2 ≤ n := by omega
      have ha2c : a2 ≤ c := by omega
      obtain ⟨P, hP⟩ : ∃ P, (if c = a2 then A else Option.map (fun x => x.add a2) A) = P := ⟨_, rfl⟩
      rw [hP] at hcut
      have hcall := refUnpack_any P (n - a2) (c - a2) t (N : Int) v w5 hcut htb (by omega) (by omega) (by omega)
      have hLl := unpackS_lt t (N : Int) v
      obtain ⟨L, hLd⟩ : ∃ L, L = unpackS t (N : Int) v := ⟨_, rfl⟩
      obtain ⟨E, hEd⟩ : ∃ E, E = unpackE t (N : Int) v := ⟨_, rfl⟩
      rw [← hLd] at hcall hLl hRv hrb
      rw [← hEd] at hcall hRv
      obtain ⟨K, hK⟩ : ∃ K, K = wd L := ⟨_, rfl⟩
      rw [← hK] at hRv
      obtain ⟨hL64, hLn⟩ := hLl
      have HRL : Hid (fD b N = L) := Lib.hid (by rw [HL.out, hrb])
      have HC := Lib.hid hcall; have HRv := Lib.hid hRv; have HLV := Lib.hid hL64; have HK := Lib.hid hK
      have h64i : ¬ (64 : Int) < (v : Int) := by omega
      clear hcall hRv hrb hL64 hLd hEd hK hcut htb hat hS5 hc51 ht ha2 hal
      go_wp2_with fail
      refine HC.out.mono ?_
      rintro e w6 ⟨v6, rfl, hown6, hb6⟩
      obtain ⟨A6, c6, rfl, _, _, r6⟩ := own_slice hown6
      have hb06 := hb5.trans (hb6.mono hb5.size)
      clear hb6 hown6 HC hP hc5 hc52
      by_cases hE0 : E = 0
      · have HRv2 : Hid (R = if K = v ∧ fitB m L = true then 0 else 4) := Lib.hid (by rw [HRv.out, if_pos hE0])
        subst hE0
        clear HRv
        go_wp2_with fail
        go_loopw [11, 12, 13] (fun s11 s12 s13 wr => ∃ k : Nat, k ≤ L.length ∧ s13 = .int .i64 (k : Int) ∧ s11 = .bool ((L.take k).contains 0) ∧ wr.ownsRow w6.heap.size 2 1 s12 k (zs (ups m (L.take k))) ∧ Below w6.heap.size w6 wr ∧ Hid (∀ d ∈ L.take k, d ≤ roomI m)) (fun _ _ i _ => L.length - (intOf i).toNat)
        case atStart => exact ⟨0, Nat.zero_le _, rfl, by simp, own_nil _ _ _ _, Below.refl _ _, Lib.hid (by simp)⟩
        case round =>
          obtain ⟨k, hk, rfl, rfl, hown, hbr, hall⟩ := hrel
          by_cases hlt : k < L.length
          · obtain ⟨ad, u, rfl, _, hu, hc⟩ := (r6.below hbr).at_ hlt
            obtain ⟨d, hd, rfl⟩ := us_at hu
            have hd64 := HLV.out d (List.mem_of_getElem? hd)
            have hq : (L.take (k + 1)).contains 0 = ((L.take k).contains 0 || ((d : Int) == 0)) := by
              rw [take_snoc hd]
              cases d with
              | zero => simp
              | succ d => simp; omega
            have HQ := Lib.hid hq
            clear hq
            by_cases hfit : d ≤ roomI m
            · have hv := sum_fit hM64 hfit
              have HS := Lib.hid (up_step (m := m) hd)
              have HALL : Hid (∀ x ∈ L.take (k + 1), x ≤ roomI m) := Lib.hid (by
                intro x hx
                rw [take_snoc hd] at hx
                rcases List.mem_append.1 hx with h | h
                · exact hall.out x h
                · rw [List.mem_singleton] at h; omega)
              have hge : ¬ (m + (d : Int) < m) := by omega
              have hnn : ¬ ((9223372036854775808 : Int) ≤ (d : Int)) ∨ ¬ ((0 : Int) ≤ m) := by
                unfold roomI at hfit; unfold In64 at hM64; omega
              clear hu hd hfit
              obtain ⟨s, hs⟩ : ∃ s, s = m + (d : Int) := ⟨_, rfl⟩
              rw [← hs] at hv HS hge
              clear hs
              have t1 : decide (s < m) = false := by simp; omega
              generalize hzz : (L.take k).contains 0 = z at HQ
              clear hzz
              by_cases h63 : 9223372036854775808 ≤ d
              case' pos =>
                have hm0 : ¬ (0 : Int) ≤ m := by omega
                have t2 : decide ((9223372036854775808 : Int) ≤ (d : Int)) = true := by simp; omega
                have t3 : decide ((0 : Int) ≤ m) = false := by simp; omega
                clear hnn
                cases z
              case' neg =>
                have t2 : decide ((9223372036854775808 : Int) ≤ (d : Int)) = false := by simp; omega
                clear hnn
                cases z
              all_goals
                go_wp2_with (at_builtin
                             refine wpList_append_any _ rfl (.tmp 97) (.tmp 99) _ rfl w6.heap.size 2 i1 _ 1 8 Tryd.underlying24 hi1 hy0 hy1 hy2 rfl (by omega) u12 k (zs (ups m (L.take k))) rfl
                               (hown.alloc _) (wr.heap.size + 1) (some ⟨wr.heap.size, 0, none⟩) 1 1 [.int .i64 s] rfl (Reads.new wr _ _) (one_int _ _) (by unfold maxLen; omega) (by omega) (by have := hbr.size; simp; omega) ?_
                             intro v8 w8 hown8 hg8 hat8)
                go_round
                case rel =>
                  refine ⟨k + 1, by omega, by go_num, by rw [HQ.out] <;> rfl, ?_, below_app hbr hown hbr.size hg8, HALL⟩
                  rw [← HS.out]
                  exact hown8
                case measure => simp [intOf]; omega
            · have hv := sum_over hM64 hd64 hfit
              have HR4 : Hid (R = 4) := Lib.hid (by
                rw [HRv2.out, if_neg]
                rintro ⟨_, h⟩
                exact hfit ((fitB_iff.1 h).2 d (List.mem_of_getElem? hd)))
              obtain ⟨s, hs⟩ : ∃ s, s = m + (d : Int) - 18446744073709551616 := ⟨_, rfl⟩
              have hlt2 : s < m := by omega
              have t1 : decide (s < m) = true := by simp; omega
              rw [← hs] at hv
              clear hs hu hd hfit HQ
              generalize hzz : (L.take k).contains 0 = z
              clear hzz
              cases z
              all_goals
                go_wp2_with fail
                go_ret2
                rw [HG.out, HR4.out, if_neg (by omega)]
                exact ⟨.slice none 0 0, rfl, own_nil _ _ _ _, hb06.trans (hbr.mono hb06.size)⟩
          · obtain rfl : k = L.length := by omega
            rw [List.take_of_length_le (Nat.le_refl _)] at hown hall
            have hzt : (L.take L.length).contains 0 = L.contains 0 := by rw [List.take_of_length_le (Nat.le_refl _)]
            rw [hzt]
            have r6r := (r6.below hbr).more hbr.size
            have hb0r := hb06.trans (hbr.mono hb06.size)
            clear hzt r6
            go_wp2_with fail
            refine (refWidth_any A6 L.length c6 L wr r6r HLV.out (by omega)).mono ?_
            rintro e w' ⟨rfl, rfl⟩
            rw [← HK.out]
            by_cases hKv : K = v
            · have q2 : ((K : Int) != (v : Int)) = false := by simp; omega
              cases hz0 : L.contains 0 with
              | true =>
                have HR0 : Hid (R = 0) := Lib.hid (by
                  rw [HRv2.out, if_pos]
                  exact ⟨hKv, fitB_iff.2 ⟨by simpa using hz0, hall.out⟩⟩)
                clear hKv hz0 HRv2
                go_wp2_with fail
                go_ret2
                rw [HG.out, HR0.out, if_pos rfl, HRL.out]
                refine ⟨_, rfl, ?_, hb0r⟩
                rw [ups_length]
                exact own_base hown hb06.size
              | false =>
                have HR4 : Hid (R = 4) := Lib.hid (by
                  rw [HRv2.out, if_neg]
                  rintro ⟨_, h⟩
                  have := (fitB_iff.1 h).1
                  have h2 : L.contains 0 = true := by simpa using this
                  rw [hz0] at h2
                  cases h2)
                clear hKv hz0 HRv2
                go_wp2_with fail
                go_ret2
                rw [HG.out, HR4.out, if_neg (by omega)]
                exact ⟨.slice none 0 0, rfl, own_nil _ _ _ _, hb0r⟩
            · have q2 : ((K : Int) != (v : Int)) = true := by simp; omega
              have HR4 : Hid (R = 4) := Lib.hid (by
                rw [HRv2.out, if_neg (fun h => hKv h.1)])
              clear hKv HRv2
              go_wp2_with fail
              go_ret2
              rw [HG.out, HR4.out, if_neg (by omega)]
              exact ⟨.slice none 0 0, rfl, own_nil _ _ _ _, hb0r⟩
      · have HRE : Hid (R = (E : Int)) := Lib.hid (by rw [HRv.out, if_neg hE0])
        have q2 : ((E : Int) != 0) = true := by simp; omega
        have HE0 := Lib.hid hE0
        clear hE0 HRv r6
        go_wp2_with fail
        go_ret2
        have hne : ¬ ((E : Int) = 0) := by have := HE0.out; omega
        rw [HG.out, HRE.out, if_neg hne]
        exact ⟨.slice none 0 0, rfl, own_nil _ _ _ _, hb06⟩
theorem refFoGet_any (A : Option Addr) (n c : Nat) (k : Int) (b : List Nat) (w : World) (hr : Reads w w.heap.size 1 A n (bs b)) (hb : ∀ x ∈ b, x < 256) (hnc : n ≤ c) (hn : n ≤ 140737488355328) (hk : k ≤ 1000 ∨ 65536 < k) :
    Calls Tryd.prog 7 #[.slice A n c, .int .i64 k] w (NewLE w (fG b k) (fE b k)) := by
  by_cases h : k < 0 ∨ 65536 < k
  · exact refFoGet_no A n c b k w h
  · obtain ⟨N, rfl⟩ : ∃ N : Nat, k = (N : Int) := ⟨k.toNat, by omega⟩
    by_cases h0 : N = 0
    · subst h0; exact refFoGet_zero A n c b w hr
    · cases hx : (vst b 1).2 with
      | some y => exact refFoGet_err A n c N b y w hr hb hnc hn (by omega) hx
      | none => exact refFoGet_more A n c N b w hr hb hnc hn (by omega) hx
end Go.Proofs.YtpjmenaejfdiaaaDoor
