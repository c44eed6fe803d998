/- Contract of the document's Pack: the bytes, or the error's number. No condition beside the list's length. -/
import Derived.Deep.LoopGhost
import Derived.Test.YtppeagjklndidaaRefWid
import Derived.Test.YtppeagjklndidaaRefBits
import Derived.Test.YtppeagjklndidaaJ29
namespace Go.Proofs.Ytppeagjklndidaa
open Go.RowKit
set_option linter.unusedVariables false
set_option linter.unusedSimpArgs false
set_option maxRecDepth 100000

theorem info_bool : (Try.prog.info? 4).map (fun i => (i.zero, i.size, i.bytes)) = some (some (.bool false), 1, 1) := by kernel_rfl
/-- The lowest bits of a number, as values. -/
def bitL (m V : Nat) : List Value := (List.range m).map fun j => Value.bool (bitB V j)
theorem bitL_snoc (m V : Nat) : bitL (m + 1) V = bitL m V ++ [Value.bool (bitB V m)] := by simp [bitL, List.range_succ]
theorem bitL_length (m V : Nat) : (bitL m V).length = m := by simp [bitL]
theorem bitL_at (m V j : Nat) (h : j < m) : (bitL m V)[j]? = some (Value.bool (bitB V j)) := by simp [bitL, h]
theorem one_bool (b : Bool) : ∀ u ∈ [Value.bool b], u.oneCell' = true := by intro u hu; simp at hu; rw [hu]; rfl
set_option maxHeartbeats 2000000 in
theorem refPack_ok (A : Option Addr) (n c : Nat) (l : List Nat) (wd' : Nat) (w : World) (hr : Reads w w.heap.size 1 A n (us l)) (hl : ∀ a ∈ l, a < 18446744073709551616) (hn : n ≤ 65536) (hw : wd' ≤ 64) (hd : wd l ≤ wd') :
    Calls Try.prog 30 #[.slice A n c, .int .i64 (wd' : Int)] w (NewE w (packB wd' l) 0) := by
  obtain ⟨i0, hi0, hz0, hz1, hz2⟩ := info_parts info_u8
  obtain ⟨ib, hib, hx0, hx1, hx2⟩ := info_parts info_bool
  have e1 : l.length = n := by have := hr.1; rw [us_length] at this; omega
  have hs := sz_small n wd' hn hw
  have hsz : sz n wd' ≤ 524289 := by unfold sz; omega
  have hz : szI (n : Int) (wd' : Int) = (sz n wd' : Int) := by unfold szI; rw [if_pos (by omega)]; simp
  have hlw := (wd_le l wd').1 hd
  have hNlt : pk wd' l < 2 ^ (n * wd') := by have := pk_lt wd' l hlw; rw [e1, Nat.mul_comm] at this; exact this
  have hPB : packB wd' l = dg 8 (sz n wd') (pk wd' l) := by unfold packB; rw [e1]
  have hdI : decide (wd' < wd l) = false := decide_eq_false (by omega)
  have hszB : decide ((sz n wd' : Int) < 0) = false := decide_eq_false (by omega)
  obtain ⟨N, hN⟩ : ∃ N, N = pk wd' l := ⟨_, rfl⟩
  have HP := Lib.hid (And.intro hPB (And.intro hNlt (And.intro hN e1)))
  have HLW := Lib.hid hlw
  have HL := Lib.hid hl
  have HZ := Lib.hid hz
  clear hPB hNlt hN hlw hz
  go_enter Try.func30, Try.ntmps30
  go_wp2_with fail
  refine (refSize_any (n : Int) (wd' : Int) _ (by omega) (by omega)).mono ?_
  rintro e w' ⟨rfl, rfl⟩
  rw [HZ.out]
  go_wp2_with fail
  refine (refWidth_any A n c l _ hr hl (by omega)).mono ?_
  rintro e w' ⟨rfl, rfl⟩
  clear hl e1
  go_wp2_with fail
  go_loopg [7, 8, 9] n (fun g s7 s8 s9 wr => ∃ i : Nat, i + g = n ∧ s8 = .int .i64 (i : Int) ∧ wr.ownsRow w.heap.size 4 1 s7 (i * wd') (bitL (i * wd') N) ∧ Below w.heap.size w wr)
  case atStart => exact ⟨0, by omega, rfl, by rw [Nat.zero_mul]; exact own_nil _ _ _ _, Below.refl _ _⟩
  case round =>
    obtain ⟨i, hig, rfl, hown, hbl⟩ := hrel
    cases gk with
    | succ g =>
      have hlt : i < n := by omega
      have hrk := hr.below hbl
      obtain ⟨ad, u, rfl, had, hu, hc⟩ := hrk.at_ hlt
      obtain ⟨v0, hb, rfl⟩ := us_at hu
      have HB := Lib.hid hb
      clear hb hu
      have hv64 : v0 < 18446744073709551616 := HL.out v0 (List.mem_of_getElem? HB.out)
      have hiw : (i + 1) * wd' ≤ n * wd' := Nat.mul_le_mul_right _ (by omega)
      have hiw2 : (i + 1) * wd' = i * wd' + wd' := Nat.succ_mul _ _
      have HI := Lib.hid hiw2; clear hiw2
      go_wp2_with fail
      go_loopg [7, 9] wd' (fun g2 s7 s9 wy => ∃ k : Nat, k + g2 = wd' ∧ s9 = .int .i64 (k : Int) ∧ wy.ownsRow w.heap.size 4 1 s7 (i * wd' + k) (bitL (i * wd' + k) N) ∧ Below w.heap.size w wy)
      case atStart => exact ⟨0, by omega, rfl, hown, hbl⟩
      case round =>
        clear hown hc hrk hbl
        obtain ⟨k, hkg, rfl, hown, hbl⟩ := hrel
        cases gk with
        | succ g2 =>
          have hkw : k < wd' := by omega
          have hc : wr.cell? (ad.add i) = some (.int .u64 (v0 : Int)) := by
            have hrk := hr.below hbl
            obtain ⟨ad', u', e1, _, hu, hc⟩ := hrk.at_ hlt
            obtain rfl : ad = ad' := Option.some.inj e1
            obtain ⟨v1, hb, rfl⟩ := us_at hu
            obtain rfl : v0 = v1 := by have := HB.out; rw [hb] at this; exact (Option.some.inj this).symm
            exact hc
          have hzw := hbl.size
          have hbd : i * wd' + k ≤ 4194304 := by have := HI.out; omega
          go_wp2_with (first
            | (go_at_call 49; refine (bit_any v0 _ k rfl _ hv64 (by omega)).mono ?_; rintro e w' ⟨rfl, rfl⟩)
            | (at_builtin
               refine wpList_append_any _ rfl (.tmp 35) (.tmp 42) _ rfl w.heap.size 4 ib _ 1 1 Try.underlying68 hib hx0 hx1 hx2 rfl (by omega) u7 (i * wd' + k) (bitL (i * wd' + k) N) rfl
                 (hown.alloc _) (wr.heap.size + 1) (some ⟨wr.heap.size, 0, none⟩) 1 1 [.bool (bitB v0 k)] rfl (Reads.new wr _ _) (one_bool _) (by unfold maxLen; omega) (by omega) (by simp; omega) ?_
               intro v2 w2 hown2 hg2' hat2))
          go_roundg g2
          case measure => omega
          case rel =>
            refine ⟨k + 1, by omega, by go_num, ?_, below_app hbl hown hzw hg2'⟩
            rw [← Nat.add_assoc, bitL_snoc, HP.out.2.2.1, ← bitB_digit wd' l HLW.out i k v0 HB.out hkw, ← HP.out.2.2.1]
            exact hown2
        | zero =>
          obtain rfl : k = wd' := by omega
          go_wp2_with fail
          go_roundg g
          case measure => omega
          case rel => exact ⟨i + 1, by omega, by go_num, by rw [HI.out]; exact hown, hbl⟩
    | zero =>
      obtain rfl : n = i := by omega
      obtain ⟨A7, c7, rfl, _, _, r7⟩ := own_slice hown
      have hzw := hbl.size
      obtain ⟨w1, rfl⟩ : ∃ w1 : World, w1 = wr := ⟨_, rfl⟩
      go_wp2_with fail
      go_loopg [10, 11, 12, 13] (sz n wd') (fun g s10 s11 s12 s13 wy => ∃ m : Nat, m + g = sz n wd' ∧ s11 = .int .i64 (m : Int) ∧ wy.ownsRow w1.heap.size 5 1 s10 m (bs (dg 8 m N)) ∧ Below w1.heap.size w1 wy)
      case atStart => exact ⟨0, by omega, rfl, own_nil _ _ _ _, Below.refl _ _⟩
      case round =>
        clear hown
        obtain ⟨m, hmg, rfl, hown, hbl2⟩ := hrel
        have hzw2 := hbl2.size
        cases gk with
        | zero =>
          have hms : Hid (m = sz n wd') := Lib.hid (by omega)
          have hlt : ¬ m < sz n wd' := by omega
          go_wp2_with fail
          go_ret2
          have h1 := hms.out
          subst h1
          refine ⟨_, rfl, ?_, hbl.trans (hbl2.mono hzw)⟩
          rw [packB_length, HP.out.2.2.2, HP.out.1, ← HP.out.2.2.1]
          exact own_base hown hzw
        | succ g =>
          have hlt : m < sz n wd' := by omega
          have hm8 : 8 * m ≤ 4194304 := by omega
          go_wp2_with fail
          go_loopg [12, 13] 8 (fun g2 s12 s13 wz => ∃ (c : Nat) (kI : Int), s13 = .int .i64 kI ∧ Hid (kI = (g2 : Int) - 1) ∧ s12 = .int .i64 (c : Int) ∧ Hid (c = N / 2 ^ (8 * m + g2) % 2 ^ (8 - g2)) ∧ g2 ≤ 8 ∧ wr = wz)
          case atStart => exact ⟨0, 7, rfl, Lib.hid (by omega), rfl, Lib.hid (by simp [Nat.mod_one]), Nat.le_refl _, rfl⟩
          case round =>
            obtain ⟨c, kI, rfl, hkI, rfl, hcv, hg2, rfl⟩ := hrel
            have hc256 : c < 256 := by rw [hcv.out]; exact Nat.lt_of_lt_of_le (Nat.mod_lt _ (Nat.two_pow_pos _)) (Nat.pow_le_pow_right (j := 8) (by omega) (by omega))
            cases gk with
            | zero =>
              obtain rfl : kI = -1 := by have := hkI.out; omega
              go_wp2_with (at_builtin
                           refine wpList_append_any _ rfl (.tmp 73) (.tmp 76) _ rfl w1.heap.size 5 i0 _ 1 1 Try.underlying24 hi0 hz0 hz1 hz2 rfl (by omega) u10 m (bs (dg 8 m N)) rfl
                             (hown.alloc _) (wr.heap.size + 1) (some ⟨wr.heap.size, 0, none⟩) 1 1 [.int .u8 (c : Int)] rfl (Reads.new wr _ _) (one_int _ _) (by unfold maxLen; omega) (by omega) (by simp; omega) ?_
                           intro v2 w2 hown2 hg2' hat2)
              go_roundg g
              case measure => omega
              case rel =>
                have hb := bs_snoc [] (dg 8 m N) c (c : Int) rfl
                simp only [List.nil_append] at hb
                rw [hb, show c = N / 2 ^ (8 * m) % 2 ^ 8 from hcv.out, ← dg_snoc] at hown2
                exact ⟨m + 1, by omega, by go_num, hown2, below_app hbl2 hown hzw2 hg2'⟩
            | succ j =>
              obtain rfl : kI = (j : Int) := by have := hkI.out; omega
              have hstep := bit_down N (8 * m + j) (8 - (j + 1))
              rw [show 8 - (j + 1) + 1 = 8 - j by omega, Nat.add_assoc, ← hcv.out, bitB_val] at hstep
              have HS := Lib.hid hstep; clear hstep
              by_cases hin : 8 * m + j < n * wd'
              · obtain ⟨ad, u, rfl, _, hu, hc⟩ := (r7.below hbl2).at_ hin
                rw [bitL_at _ _ _ hin] at hu
                obtain rfl := Option.some.inj hu
                clear hu
                cases hbit : bitB N (8 * m + j) with
                | true =>
                  rw [hbit] at hc HS
                  clear hbit
                  go_wp2_with fail
                  go_roundg j
                  case measure => omega
                  case rel => exact ⟨2 * c + 1, (j : Int) - 1, rfl, Lib.hid rfl, by go_num, Lib.hid (by rw [HS.out]; rfl), by omega, rfl⟩
                | false =>
                  rw [hbit] at hc HS
                  clear hbit
                  go_wp2_with fail
                  go_roundg j
                  case measure => omega
                  case rel => exact ⟨2 * c, (j : Int) - 1, rfl, Lib.hid rfl, by go_num, Lib.hid (by rw [HS.out]; rfl), by omega, rfl⟩
              · have hz : bitB N (8 * m + j) = false := by
                  unfold bitB
                  have h1 : N < 2 ^ (8 * m + j) := by rw [HP.out.2.2.1]; exact Nat.lt_of_lt_of_le HP.out.2.1 (Nat.pow_le_pow_right (by omega) (by omega))
                  rw [Nat.div_eq_of_lt h1]; rfl
                rw [hz] at HS
                clear hz
                go_wp2_with fail
                go_roundg j
                case measure => omega
                case rel => exact ⟨2 * c, (j : Int) - 1, rfl, Lib.hid rfl, by go_num, Lib.hid (by rw [HS.out]; rfl), by omega, rfl⟩

theorem refPack_any (A : Option Addr) (n c : Nat) (l : List Nat) (wi : Int) (w : World) (hr : Reads w w.heap.size 1 A n (us l)) (hl : ∀ a ∈ l, a < 18446744073709551616) (hn : n ≤ 140737488355328) (hw : -9223372036854775808 ≤ wi ∧ wi ≤ 9223372036854775807) :
    Calls Try.prog 30 #[.slice A n c, .int .i64 wi] w (NewE w (packS l wi) (packE l wi)) := by
  have e1 : l.length = n := by have := hr.1; rw [us_length] at this; omega
  by_cases h1 : 0 ≤ (n : Int) ∧ (n : Int) ≤ 65536 ∧ 0 ≤ wi ∧ wi ≤ 64
  · have hz : szI (n : Int) wi = (sz n wi.toNat : Int) := by unfold szI; rw [if_pos h1]; simp
    obtain ⟨_, hn6, h3, h4⟩ := h1
    obtain ⟨wN, rfl⟩ := Int.eq_ofNat_of_zero_le h3
    simp only [Int.toNat_natCast] at hz
    by_cases h2 : wN < wd l
    · have hE : packE l (wN : Int) = 5 := by unfold packE; rw [e1, hz, if_neg (by omega), if_pos (by omega)]
      have hS : packS l (wN : Int) = [] := by unfold packS; rw [if_neg (by omega)]
      have H := Lib.hid (And.intro hE hS); clear hE hS
      have E1 := Lib.hid e1; clear e1
      have HZ := Lib.hid hz; clear hz
      go_enter Try.func30, Try.ntmps30
      go_wp2_with fail
      refine (refSize_any (n : Int) (wN : Int) _ (by omega) (by omega)).mono ?_
      rintro e w' ⟨rfl, rfl⟩
      rw [HZ.out]
      go_wp2_with fail
      refine (refWidth_any A n c l _ hr hl (by omega)).mono ?_
      rintro e w' ⟨rfl, rfl⟩
      go_wp2_with fail
      go_ret2
      obtain ⟨h5, h6⟩ := H.out
      rw [h5, h6]
      exact ⟨.slice none 0 0, rfl, own_nil _ _ _ _, Below.refl _ _⟩
    · obtain ⟨h5, h6⟩ := packE_ok l wN (by omega) (by omega) (by omega)
      rw [h5, h6]
      exact refPack_ok A n c l wN w hr hl (by omega) (by omega) (by omega)
  · have hz : szI (n : Int) wi = -1 := by unfold szI; rw [if_neg h1]
    have hE : packE l wi = 1 := by unfold packE; rw [e1, hz, if_pos (by omega)]
    have hS : packS l wi = [] := by unfold packS; rw [if_neg (by omega)]
    have H := Lib.hid (And.intro hE hS); clear hE hS
    have E1 := Lib.hid e1; clear e1
    have HZ := Lib.hid hz; clear hz
    clear h1
    go_enter Try.func30, Try.ntmps30
    go_wp2_with fail
    refine (refSize_any (n : Int) wi _ (by omega) hw).mono ?_
    rintro e w' ⟨rfl, rfl⟩
    rw [HZ.out]
    go_wp2_with fail
    go_ret2
    obtain ⟨h5, h6⟩ := H.out
    rw [h5, h6]
    exact ⟨.slice none 0 0, rfl, own_nil _ _ _ _, Below.refl _ _⟩
end Go.Proofs.Ytppeagjklndidaa
