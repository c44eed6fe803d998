import Derived.Deep.LoopGhost
import Derived.Test.YtpgdlmnhomnblaaGreatDoorJ35
import Derived.Test.YtpgdlmnhomnblaaGreatDoorJ14
import Derived.Test.YtpgdlmnhomnblaaGreatDoorJ34
import Derived.Test.YtpgdlmnhomnblaaGreatDoorJ6
namespace Go.Proofs.YtpgdlmnhomnblaaGreatDoor
open Go.RowKit
set_option linter.unusedVariables false
set_option linter.unusedSimpArgs false
set_option maxRecDepth 100000
theorem info_boolP : (Tryz.prog.info? 4).map (fun i => (i.zero, i.size, i.bytes)) = some (some (.bool false), 1, 1) := by kernel_rfl
def bitL (m V : Nat) : List Value := (List.range m).map fun j => Value.bool (bitB V j)
theorem bitL_snoc (m V : Nat) : bitL (m + 1) V = bitL m V ++ [Value.bool (bitB V m)] := by simp [bitL, List.range_succ]
theorem bitL_at (m V j : Nat) (h : j < m) : (bitL m V)[j]? = some (Value.bool (bitB V j)) := by simp [bitL, h]
theorem one_boolP (b : Bool) : ∀ u ∈ [Value.bool b], u.oneCell' = true := by intro u hu; simp at hu; rw [hu]; rfl
set_option maxHeartbeats 2000000 in
theorem refPack_ok (A : Option Addr) (n c : Nat) (l : List Nat) (wd' : Nat) (w : World) (hr : Reads w w.heap.size 1 A n (us l)) (hl : ∀ a ∈ l, a < 18446744073709551616) (hn : n ≤ 65536) (hw : wd' ≤ 64) (hd : wd l ≤ wd') :
    Calls Tryz.prog 195 #[.slice A n c, .int .i64 (wd' : Int)] w (NewE w (packB wd' l) 0) := by
  obtain ⟨i0, hi0, hz0, hz1, hz2⟩ := info_parts info_u8
  obtain ⟨ib, hib, hx0, hx1, hx2⟩ := info_parts info_boolP
  have e1 : l.length = n := by have := hr.1; rw [us_length] at this; omega
  have hs := sz_small n wd' hn hw
  have hsz : sz n wd' ≤ 524289 := by unfold sz; omega
  have hz : szI (n : Int) (wd' : Int) = (sz n wd' : Int) := by unfold szI; rw [if_pos (by omega)]; simp
  have hlw := (wd_le l wd').1 hd
  have hNlt : pk wd' l < 2 ^ (n * wd') := by have := pk_lt wd' l hlw; rw [e1, Nat.mul_comm] at this; exact this
  have hPB : packB wd' l = dg 8 (sz n wd') (pk wd' l) := by unfold packB; rw [e1]
  have hdI : decide (wd' < wd l) = false := decide_eq_false (by omega)
  have hszB : decide ((sz n wd' : Int) < 0) = false := decide_eq_false (by omega)
  obtain ⟨N, hN⟩ : ∃ N, N = pk wd' l := ⟨_, rfl⟩
  have HP := Lib.hid (And.intro hPB (And.intro hNlt (And.intro hN e1)))
  have HLW := Lib.hid hlw
  have HL := Lib.hid hl
  have HZ := Lib.hid hz
  clear hPB hNlt hN hlw hz
  go_enter Tryz.func195, Tryz.ntmps195
  go_wp2_with fail
  refine (refSize_any (n : Int) (wd' : Int) _ (by omega) (by omega)).mono ?_
  rintro e w' ⟨rfl, rfl⟩
  rw [HZ.out]
  go_wp2_with fail
  refine (refWidth_any A n c l _ hr hl (by omega)).mono ?_
  rintro e w' ⟨rfl, rfl⟩
  clear hl e1
  go_wp2_with fail
  go_loopg [7, 8, 9] n (fun g s7 s8 s9 wr => ∃ i : Nat, i + g = n ∧ s8 = .int .i64 (i : Int) ∧ wr.ownsRow w.heap.size 4 1 s7 (i * wd') (bitL (i * wd') N) ∧ Below w.heap.size w wr)
  case atStart => exact ⟨0, by omega, rfl, by rw [Nat.zero_mul]; exact own_nil _ _ _ _, Below.refl _ _⟩
  case round =>
    obtain ⟨i, hig, rfl, hown, hbl⟩ := hrel
    cases gk with
    | succ g =>
      have hlt : i < n := by omega
      have hrk := hr.below hbl
      obtain ⟨ad, u, rfl, had, hu, hc⟩ := hrk.at_ hlt
      obtain ⟨v0, hb, rfl⟩ := us_at hu
      have HB := Lib.hid hb
      clear hb hu
      have hv64 : v0 < 18446744073709551616 := HL.out v0 (List.mem_of_getElem? HB.out)
      have hiw : (i + 1) * wd' ≤ n * wd' := Nat.mul_le_mul_right _ (by omega)
      have hiw2 : (i + 1) * wd' = i * wd' + wd' := Nat.succ_mul _ _
      have HI := Lib.hid hiw2; clear hiw2
      go_wp2_with fail
      go_loopg [7, 9] wd' (fun g2 s7 s9 wy => ∃ k : Nat, k + g2 = wd' ∧ s9 = .int .i64 (k : Int) ∧ wy.ownsRow w.heap.size 4 1 s7 (i * wd' + k) (bitL (i * wd' + k) N) ∧ Below w.heap.size w wy)
      case atStart => exact ⟨0, by omega, rfl, hown, hbl⟩
      case round =>
        clear hown hc hrk hbl
        obtain ⟨k, hkg, rfl, hown, hbl⟩ := hrel
        cases gk with
        | succ g2 =>
          have hkw : k < wd' := by omega
          have hc : wr.cell? (ad.add i) = some (.int .u64 (v0 : Int)) := by
            have hrk := hr.below hbl
            obtain ⟨ad', u', e1, _, hu, hc⟩ := hrk.at_ hlt
            obtain rfl : ad = ad' := Option.some.inj e1
            obtain ⟨v1, hb, rfl⟩ := us_at hu
            obtain rfl : v0 = v1 := by have := HB.out; rw [hb] at this; exact (Option.some.inj this).symm
            exact hc
          have hzw := hbl.size
          have hbd : i * wd' + k ≤ 4194304 := by have := HI.out; omega
          go_wp2_with (first
            | (go_at_call 213; refine (bit_any v0 _ k rfl _ hv64 (by omega)).mono ?_; rintro e w' ⟨rfl, rfl⟩)
            | (at_builtin
               refine wpList_append_any _ rfl (.tmp 35) (.tmp 42) _ rfl w.heap.size 4 ib _ 1 1 Tryz.underlying31 hib hx0 hx1 hx2 rfl (by omega) u7 (i * wd' + k) (bitL (i * wd' + k) N) rfl
                 (hown.alloc _) (wr.heap.size + 1) (some ⟨wr.heap.size, 0, none⟩) 1 1 [.bool (bitB v0 k)] rfl (Reads.new wr _ _) (one_boolP _) (by unfold maxLen; omega) (by omega) (by simp; omega) ?_
               intro v2 w2 hown2 hg2' hat2))
          go_roundg g2
          case measure => omega
          case rel =>
            refine ⟨k + 1, by omega, by go_num, ?_, below_app hbl hown hzw hg2'⟩
            rw [← Nat.add_assoc, bitL_snoc, HP.out.2.2.1, ← bitB_digit wd' l HLW.out i k v0 HB.out hkw, ← HP.out.2.2.1]
            exact hown2
        | zero =>
          obtain rfl : k = wd' := by omega
          go_wp2_with fail
          go_roundg g
          case measure => omega
          case rel => exact ⟨i + 1, by omega, by go_num, by rw [HI.out]; exact hown, hbl⟩
    | zero =>
      obtain rfl : n = i := by omega
      obtain ⟨A7, c7, rfl, _, _, r7⟩ := own_slice hown
      have hzw := hbl.size
      obtain ⟨w1, rfl⟩ : ∃ w1 : World, w1 = wr := ⟨_, rfl⟩
      go_wp2_with fail
      go_loopg [10, 11, 12, 13] (sz n wd') (fun g s10 s11 s12 s13 wy => ∃ m : Nat, m + g = sz n wd' ∧ s11 = .int .i64 (m : Int) ∧ wy.ownsRow w1.heap.size 5 1 s10 m (bs (dg 8 m N)) ∧ Below w1.heap.size w1 wy)
      case atStart => exact ⟨0, by omega, rfl, own_nil _ _ _ _, Below.refl _ _⟩
      case round =>
        clear hown
        obtain ⟨m, hmg, rfl, hown, hbl2⟩ := hrel
        have hzw2 := hbl2.size
        cases gk with
        | zero =>
          have hms : Hid (m = sz n wd') := Lib.hid (by omega)
          have hlt : ¬ m < sz n wd' := by omega
          go_wp2_with fail
          go_ret2
          have h1 := hms.out
          subst h1
          refine ⟨_, rfl, ?_, hbl.trans (hbl2.mono hzw)⟩
          rw [packB_length, HP.out.2.2.2, HP.out.1, ← HP.out.2.2.1]
          exact own_base hown hzw
        | succ g =>
          have hlt : m < sz n wd' := by omega
          have hm8 : 8 * m ≤ 4194304 := by omega
          go_wp2_with fail
          go_loopg [12, 13] 8 (fun g2 s12 s13 wz => ∃ (c : Nat) (kI : Int), s13 = .int .i64 kI ∧ Hid (kI = (g2 : Int) - 1) ∧ s12 = .int .i64 (c : Int) ∧ Hid (c = N / 2 ^ (8 * m + g2) % 2 ^ (8 - g2)) ∧ g2 ≤ 8 ∧ wr = wz)
          case atStart => exact ⟨0, 7, rfl, Lib.hid (by omega), rfl, Lib.hid (by simp [Nat.mod_one]), Nat.le_refl _, rfl⟩
          case round =>
            obtain ⟨c, kI, rfl, hkI, rfl, hcv, hg2, rfl⟩ := hrel
            have hc256 : c < 256 := by rw [hcv.out]; exact Nat.lt_of_lt_of_le (Nat.mod_lt _ (Nat.two_pow_pos _)) (Nat.pow_le_pow_right (j := 8) (by omega) (by omega))
            cases gk with
            | zero =>
              obtain rfl : kI = -1 := by have := hkI.out; omega
              go_wp2_with (at_builtin
                           refine wpList_append_any _ rfl (.tmp 73) (.tmp 76) _ rfl w1.heap.size 5 i0 _ 1 1 Tryz.underlying66 hi0 hz0 hz1 hz2 rfl (by omega) u10 m (bs (dg 8 m N)) rfl
                             (hown.alloc _) (wr.heap.size + 1) (some ⟨wr.heap.size, 0, none⟩) 1 1 [.int .u8 (c : Int)] rfl (Reads.new wr _ _) (one_int _ _) (by unfold maxLen; omega) (by omega) (by simp; omega) ?_
                           intro v2 w2 hown2 hg2' hat2)
              go_roundg g
              case measure => omega
              case rel =>
                have hb := bs_snoc [] (dg 8 m N) c (c : Int) rfl
                simp only [List.nil_append] at hb
                rw [hb, show c = N / 2 ^ (8 * m) % 2 ^ 8 from hcv.out, ← dg_snoc] at hown2
                exact ⟨m + 1, by omega, by go_num, hown2, below_app hbl2 hown hzw2 hg2'⟩
            | succ j =>
              obtain rfl : kI = (j : Int) := by have := hkI.out; omega
              have hstep := bit_down N (8 * m + j) (8 - (j + 1))
              rw [show 8 - (j + 1) + 1 = 8 - j by omega, Nat.add_assoc, ← hcv.out, bitB_val] at hstep
              have HS := Lib.hid hstep; clear hstep
              by_cases hin : 8 * m + j < n * wd'
              · obtain ⟨ad, u, rfl, _, hu, hc⟩ := (r7.below hbl2).at_ hin
                rw [bitL_at _ _ _ hin] at hu
                obtain rfl := Option.some.inj hu
                clear hu
                cases hbit : bitB N (8 * m + j) with
                | true =>
                  rw [hbit] at hc HS
                  clear hbit
                  go_wp2_with fail
                  go_roundg j
                  case measure => omega
                  case rel => exact ⟨2 * c + 1, (j : Int) - 1, rfl, Lib.hid rfl, by go_num, Lib.hid (by rw [HS.out]; rfl), by omega, rfl⟩
                | false =>
                  rw [hbit] at hc HS
                  clear hbit
                  go_wp2_with fail
                  go_roundg j
                  case measure => omega
                  case rel => exact ⟨2 * c, (j : Int) - 1, rfl, Lib.hid rfl, by go_num, Lib.hid (by rw [HS.out]; rfl), by omega, rfl⟩
              · have hz : bitB N (8 * m + j) = false := by
                  unfold bitB
                  have h1 : N < 2 ^ (8 * m + j) := by rw [HP.out.2.2.1]; exact Nat.lt_of_lt_of_le HP.out.2.1 (Nat.pow_le_pow_right (by omega) (by omega))
                  rw [Nat.div_eq_of_lt h1]; rfl
                rw [hz] at HS
                clear hz
                go_wp2_with fail
                go_roundg j
                case measure => omega
                case rel => exact ⟨2 * c, (j : Int) - 1, rfl, Lib.hid rfl, by go_num, Lib.hid (by rw [HS.out]; rfl), by omega, rfl⟩
theorem refPack_any (A : Option Addr) (n c : Nat) (l : List Nat) (wi : Int) (w : World) (hr : Reads w w.heap.size 1 A n (us l)) (hl : ∀ a ∈ l, a < 18446744073709551616) (hn : n ≤ 140737488355328) (hw : -9223372036854775808 ≤ wi ∧ wi ≤ 9223372036854775807) :
    Calls Tryz.prog 195 #[.slice A n c, .int .i64 wi] w (NewE w (packS l wi) (packE l wi)) := by
  have e1 : l.length = n := by have := hr.1; rw [us_length] at this; omega
  by_cases h1 : 0 ≤ (n : Int) ∧ (n : Int) ≤ 65536 ∧ 0 ≤ wi ∧ wi ≤ 64
  · have hz : szI (n : Int) wi = (sz n wi.toNat : Int) := by unfold szI; rw [if_pos h1]; simp
    obtain ⟨_, hn6, h3, h4⟩ := h1
    obtain ⟨wN, rfl⟩ := Int.eq_ofNat_of_zero_le h3
    simp only [Int.toNat_natCast] at hz
    by_cases h2 : wN < wd l
    · have hE : packE l (wN : Int) = 5 := by unfold packE; rw [e1, hz, if_neg (by omega), if_pos (by omega)]
      have hS : packS l (wN : Int) = [] := by unfold packS; rw [if_neg (by omega)]
      have H := Lib.hid (And.intro hE hS); clear hE hS
      have E1 := Lib.hid e1; clear e1
      have HZ := Lib.hid hz; clear hz
      go_enter Tryz.func195, Tryz.ntmps195
      go_wp2_with fail
      refine (refSize_any (n : Int) (wN : Int) _ (by omega) (by omega)).mono ?_
      rintro e w' ⟨rfl, rfl⟩
      rw [HZ.out]
      go_wp2_with fail
      refine (refWidth_any A n c l _ hr hl (by omega)).mono ?_
      rintro e w' ⟨rfl, rfl⟩
      go_wp2_with fail
      go_ret2
      obtain ⟨h5, h6⟩ := H.out
      rw [h5, h6]
      exact ⟨.slice none 0 0, rfl, own_nil _ _ _ _, Below.refl _ _⟩
    · obtain ⟨h5, h6⟩ := packE_ok l wN (by omega) (by omega) (by omega)
      rw [h5, h6]
      exact refPack_ok A n c l wN w hr hl (by omega) (by omega) (by omega)
  · have hz : szI (n : Int) wi = -1 := by unfold szI; rw [if_neg h1]
    have hE : packE l wi = 1 := by unfold packE; rw [e1, hz, if_pos (by omega)]
    have hS : packS l wi = [] := by unfold packS; rw [if_neg (by omega)]
    have H := Lib.hid (And.intro hE hS); clear hE hS
    have E1 := Lib.hid e1; clear e1
    have HZ := Lib.hid hz; clear hz
    clear h1
    go_enter Tryz.func195, Tryz.ntmps195
    go_wp2_with fail
    refine (refSize_any (n : Int) wi _ (by omega) hw).mono ?_
    rintro e w' ⟨rfl, rfl⟩
    rw [HZ.out]
    go_wp2_with fail
    go_ret2
    obtain ⟨h5, h6⟩ := H.out
    rw [h5, h6]
    exact ⟨.slice none 0 0, rfl, own_nil _ _ _ _, Below.refl _ _⟩
end Go.Proofs.YtpgdlmnhomnblaaGreatDoor
namespace Go.Proofs.YtpgdlmnhomnblaaGreatDoor
open Go.RowKit
set_option linter.unusedVariables false
set_option linter.unusedSimpArgs false
set_option maxRecDepth 100000
theorem refPack_fit (A : Option Addr) (n c : Nat) (l : List Nat) (kI : Int) (k : Nat) (hkI : kI = (k : Int)) (w : World) (hr : Reads w w.heap.size 1 A n (us l)) (hl : ∀ a ∈ l, a < 18446744073709551616) (hn : n ≤ 65536) (hk : k ≤ 64) (hd : wd l ≤ k) :
    Calls Tryz.prog 195 #[.slice A n c, .int .i64 kI] w (NewE w (packB k l) 0) := by
  subst hkI
  have e1 : l.length = n := by have := hr.1; rw [us_length] at this; omega
  have h := refPack_any A n c l (k : Int) w hr hl (by omega) (by omega)
  obtain ⟨h1, h2⟩ := packE_ok l k (by omega) hk hd
  rwa [h1, h2] at h
end Go.Proofs.YtpgdlmnhomnblaaGreatDoor
namespace Go.Proofs.YtpgdlmnhomnblaaGreatDoor
open Go.RowKit
set_option linter.unusedVariables false
set_option linter.unusedSimpArgs false
set_option maxRecDepth 100000
theorem refDl_nil (A : Option Addr) (c : Nat) (w : World) (hr : Reads w w.heap.size 1 A 0 (zs [])) :
    Calls Tryz.prog 156 #[.slice A 0 c] w (New w (bs (dl [])) (dl []).length) := by
  go_enter Tryz.func156, Tryz.ntmps156
  go_wp2_with fail
  refine (refSteps_any A 0 c [] w hr (by simp) (Nat.zero_le _) (by omega)).mono ?_
  rintro e w1 ⟨v1, rfl, hown1, hb1⟩
  obtain ⟨A1, c1, rfl, _, _, r1⟩ := own_slice hown1
  go_wp2_with fail
  go_ret
  exact ⟨.slice none 0 0, rfl, own_nil _ _ _ _, hb1⟩
set_option maxHeartbeats 1000000 in
theorem refDl_one (A : Option Addr) (c : Nat) (z : Int) (w : World) (hr : Reads w w.heap.size 1 A 1 (zs [z])) (hz : In64 z) (hc : 1 ≤ c) :
    Calls Tryz.prog 156 #[.slice A 1 c] w (New w (bs (dl [z])) (dl [z]).length) := by
  have hs : stp 0 [z] = [z] := by simp only [stp]; rw [show z - 0 = z by omega, w64_id hz]
  have hzg := (zg_int hz).2
  go_enter Tryz.func156, Tryz.ntmps156
  go_wp2_with fail
  refine (refSteps_any A 1 c [z] w hr (by simpa using hz) hc (by omega)).mono ?_
  rintro e w1 ⟨v1, rfl, hown1, hb1⟩
  rw [hs] at hown1
  obtain ⟨A1, c1, rfl, _, _, r1⟩ := own_slice hown1
  obtain ⟨ad, u, rfl, _, hu, hcl⟩ := r1.at_ (show 0 < 1 by omega)
  have hu' : u = .int .i64 z := by simpa [zs] using hu.symm
  subst hu'
  have hc0 : w1.cell? ad = some (.int .i64 z) := by simpa [Addr.add] using hcl
  clear hu hs hcl
  go_wp2_with fail
  refine (refZigN_any z w1 hz).mono ?_
  rintro e w' ⟨rfl, rfl⟩
  go_wp2_with fail
  refine (refVar_any (zg z) w1 hzg).mono ?_
  rintro e2 w2 ⟨v2, rfl, hown2, hb2⟩
  go_wp2_with fail
  go_ret
  have hd : dl [z] = vb (zg z) := by simp [dl, dl1, dl2, dl3]
  rw [hd]
  exact ⟨_, rfl, own_base hown2 hb1.size, hb1.trans (hb2.mono hb1.size)⟩
set_option maxHeartbeats 2000000 in
theorem refDl_two (A : Option Addr) (n c : Nat) (z y : Int) (r : List Int) (w : World) (hr : Reads w w.heap.size 1 A n (zs (z :: y :: r))) (hl : ∀ x ∈ z :: y :: r, In64 x) (hnc : n ≤ c) (hn : n ≤ 65536) :
    Calls Tryz.prog 156 #[.slice A n c] w (New w (bs (dl (z :: y :: r))) (dl (z :: y :: r)).length) := by
  obtain ⟨i0, hi0, hz0, hz1, hz2⟩ := info_parts info_u8
  obtain ⟨i1, hi1, hy0, hy1, hy2⟩ := info_parts info_u64
  have e1 : n = r.length + 2 := by have := hr.1; rw [zs_length] at this; simp at this; omega
  have hz := hl z (by simp)
  have hzg := (zg_int hz).2
  have hvl := vb_length (zg z)
  have hs0 : (stp 0 (z :: y :: r))[0]? = some z := by simp only [stp]; rw [show z - 0 = z by omega, w64_id hz]; simp
  have hdl := (dl_parts (z :: y :: r)).2.2 (by simp; omega)
  have hdt : dl3 (z :: y :: r) = packB (wd (zb (z :: y :: r))) (zb (z :: y :: r)) := by simp [dl3]
  have hdw : dl2 (z :: y :: r) = [wd (zb (z :: y :: r))] := by simp [dl2]
  have HD : Hid (dl (z :: y :: r) = vb (zg z) ++ dl2 (z :: y :: r) ++ dl3 (z :: y :: r)) := Lib.hid rfl
  have hzl : (zb (z :: y :: r)).length = n - 1 := by rw [zb_length]; simp; omega
  have hsl : (stp 0 (z :: y :: r)).length = n := by rw [stp_length]; simp; omega
  have hin := stp_in (z :: y :: r) 0
  have hw64 := wd_zb (z :: y :: r)
  have hzlt := zb_lt (z :: y :: r)
  have hzb : ((stp 0 (z :: y :: r)).drop 1).map zg = zb (z :: y :: r) := rfl
  rw [hdt] at hdl HD
  rw [hdw] at HD
  obtain ⟨S, hS⟩ : ∃ S, S = stp 0 (z :: y :: r) := ⟨_, rfl⟩
  obtain ⟨Z, hZ⟩ : ∃ Z, Z = zb (z :: y :: r) := ⟨_, rfl⟩
  obtain ⟨K, hK⟩ : ∃ K, K = wd Z := ⟨_, rfl⟩
  have hst := refSteps_any A n c (z :: y :: r) w hr hl hnc hn
  rw [← hS] at hst hs0 hzb hin hsl
  rw [← hZ] at HD hzl hzb hzlt hdl hw64
  rw [← hK] at HD hdl hw64
  have HK := Lib.hid hK; have HZ := Lib.hid hzb; have HIN := Lib.hid hin; have HLT := Lib.hid hzlt; have HST := Lib.hid hst; have HZL := Lib.hid hzl; have HSL := Lib.hid hsl
  have q1 : ((n : Int) == 1) = false := by simp; omega
  have q0 : ((n : Int) == 0) = false := by simp; omega
  have h2n : 2 ≤ n := by omega
  clear hK hzb hin hzlt hst hzl hS hZ hdt hdw e1 hl hr hsl
  go_enter Tryz.func156, Tryz.ntmps156
  go_wp2_with fail
  refine HST.out.mono ?_
  rintro e w1 ⟨v1, rfl, hown1, hb1⟩
  obtain ⟨A1, c1, rfl, hc1, _, r1⟩ := own_slice hown1
  obtain ⟨ad, u, rfl, _, hu, hcl⟩ := r1.at_ (show 0 < n by omega)
  have hu' : u = .int .i64 z := by rw [zs_get hs0] at hu; exact (Option.some.inj hu).symm
  subst hu'
  have hc0 : w1.cell? ad = some (.int .i64 z) := by simpa [Addr.add] using hcl
  clear hu hs0 hcl
  go_wp2_with fail
  refine (refZigN_any z w1 hz).mono ?_
  rintro e w' ⟨rfl, rfl⟩
  go_wp2_with fail
  refine (refVar_any (zg z) w1 hzg).mono ?_
  rintro e2 w2 ⟨v2, rfl, hown2, hb2⟩
  obtain ⟨A2, c2, rfl, _, _, r2⟩ := own_slice hown2
  have r12 := r1.next hb2
  have hb02 := hb1.trans (hb2.mono hb1.size)
  clear hc0 r1 hown1 r2
  go_wp2_with fail
  go_loopw [5, 6] (fun s5 s6 wr => ∃ k j : Nat, k ≤ n ∧ 1 ≤ k ∧ Hid (k = j + 1) ∧ s6 = .int .i64 (k : Int) ∧ wr.ownsRow w2.heap.size 131 1 s5 j (us (Z.take j)) ∧ Below w2.heap.size w2 wr) (fun _ i _ => n - (intOf i).toNat)
  case atStart => exact ⟨1, 0, by omega, Nat.le_refl _, Lib.hid rfl, rfl, own_nil _ _ _ _, Below.refl _ _⟩
  case round =>
    obtain ⟨k, j, hk, hk1, hkj, rfl, hown, hb⟩ := hrel
    have hsz := hb.size
    by_cases hlt : k < n
    · obtain ⟨ad', u, e', _, hu, hc⟩ := (r12.below hb).at_ hlt
      injection e' with e'
      subst e'
      obtain ⟨x, hx, rfl⟩ := zs_at hu
      have hx64 := HIN.out x (List.mem_of_getElem? hx)
      have hxg := (zg_int hx64).2
      have HS : Hid (Z.take (j + 1) = Z.take j ++ [zg x]) := Lib.hid (by
        rw [List.take_add_one, ← HZ.out, List.getElem?_map, List.getElem?_drop, Nat.add_comm 1 j, ← hkj.out, hx]; rfl)
      have hj : j ≤ 65536 := by have := hkj.out; omega
      clear hu hx
      go_wp2_with fail
      refine (refZigN_any x wr hx64).mono ?_
      rintro e w' ⟨rfl, rfl⟩
      go_wp2_with (at_builtin
                   refine wpList_append_any _ rfl (.tmp 30) (.tmp 36) _ rfl w2.heap.size 131 i1 _ 1 8 Tryz.underlying160 hi1 hy0 hy1 hy2 rfl (by omega) u5 j (us (Z.take j)) rfl
                     (hown.alloc _) (wr.heap.size + 1) (some ⟨wr.heap.size, 0, none⟩) 1 1 [.int .u64 (zg x : Int)] rfl (Reads.new wr _ _) (one_int _ _) (by unfold maxLen; omega) (by omega) (by simp; omega) ?_
                   intro v4 w4 hown4 hg4 hat4)
      go_round
      case rel =>
        refine ⟨k + 1, j + 1, by omega, by omega, Lib.hid (by rw [hkj.out]), by go_num, ?_, below_app hb hown hsz hg4⟩
        have h1 := us_snoc [] (Z.take j) (zg x) (zg x : Int) rfl
        simp only [List.nil_append] at h1
        rw [HS.out, ← h1]
        exact hown4
      case measure => simp [intOf]; omega
    · obtain rfl : k = n := by omega
      have hj : j = k - 1 := by have := hkj.out; omega
      rw [List.take_of_length_le (by rw [HZL.out]; omega)] at hown
      subst hj
      obtain ⟨A3, c3, rfl, _, _, r3⟩ := own_slice hown
      have o2 := own_below hown2 hb
      have hb03 := hb02.trans (hb.mono hb02.size)
      clear hkj hown r12
      go_wp2_with fail
      refine (refWidth_any A3 (k - 1) c3 Z wr r3 HLT.out (by omega)).mono ?_
      rintro e w' ⟨rfl, rfl⟩
      rw [← HK.out]
      go_wp2_with fail
      refine (refPack_fit A3 (k - 1) c3 Z _ K rfl wr r3 HLT.out (by omega) (by omega) (by rw [HK.out]; exact Nat.le_refl _)).mono ?_
      rintro e w4 ⟨v4, rfl, hown4, hb4⟩
      obtain ⟨A4, c4, rfl, _, _, _⟩ := own_slice hown4
      have o24 := own_below o2 hb4
      have hb04 := hb03.trans (hb4.mono hb03.size)
      have t2 := hb2.size
      have t3 := hb.size
      have t4 := hb4.size
      have t0 := hb02.size
      have t1 := hb1.size
      have hne : (Value.slice A4 (packB K Z).length c4).ownBlock = none ∨ (Value.slice A4 (packB K Z).length c4).ownBlock ≠ (Value.slice A2 (vb (zg z)).length c2).ownBlock := by
        cases hv : (Value.slice A4 (packB K Z).length c4).ownBlock with
        | none => exact .inl rfl
        | some q =>
          refine .inr fun e => ?_
          have h1 := (hown4.lt q hv).1
          have h2 := (hown2.lt q e.symm).2
          omega
      have hb05 := fun (o : Obj) (w5 : World) (hg : (w4.alloc o).grownBy w5 (Value.slice A2 (vb (zg z)).length c2).ownBlock) => below_app hb04 (own_base o24 t1) (hb04.size) hg
      clear o2 r3
      go_wp2_with (first
        | (at_builtin
           refine wpList_append_any _ rfl (.tmp 46) (.tmp 49) _ rfl w1.heap.size 5 i0 _ 1 1 Tryz.underlying66 hi0 hz0 hz1 hz2 rfl (by omega) (.slice A2 (vb (zg z)).length c2) (vb (zg z)).length (bs (vb (zg z))) rfl
             (o24.alloc _) (w4.heap.size + 1) (some ⟨w4.heap.size, 0, none⟩) 1 1 [.int .u8 (K : Int)] rfl (Reads.new w4 _ _) (one_int _ _) (by unfold maxLen; omega) (by omega) (by simp; omega) ?_
           intro v5 w5 hown5 hg5 hat5
           have o45 := (hown4.alloc (.cells #[.int .u8 (K : Int)] 5)).kept hg5 hne
           have hb5 := hb05 _ _ hg5
           have r4 := Reads.of_own o45)
        | (at_builtin
           refine wpList_append_any _ rfl (.tmp 50) (.tmp 51) _ rfl w1.heap.size 5 i0 _ 1 1 Tryz.underlying66 hi0 hz0 hz1 hz2 rfl (by omega) v5 ((vb (zg z)).length + 1) (bs (vb (zg z)) ++ [.int .u8 (K : Int)]) rfl
             hown5 w5.heap.size A4 (packB K Z).length c4 (bs (packB K Z)) rfl r4 (bs_one _) (by unfold maxLen; omega) (by omega) (by have := hg5.size; simp at this; omega) ?_
           intro v6 w6 hown6 hg6 hat6))
      go_ret
      have hb6 := hb5.grown hg6 hb5.size (fun q hq => by have := (hown5.lt q hq).1; omega)
      have hd : bs (vb (zg z)) ++ [.int .u8 (K : Int)] ++ bs (packB K Z) = bs (dl (z :: y :: r)) := by
        rw [HD.out, bs_append, bs_append]; rfl
      have hdl2 : (vb (zg z)).length + 1 + (packB K Z).length = (dl (z :: y :: r)).length := by
        rw [HD.out, List.length_append, List.length_append]; rfl
      rw [hd, hdl2] at hown6
      exact ⟨v6, rfl, own_base hown6 hb1.size, hb6⟩
theorem refDl_any (A : Option Addr) (n c : Nat) (l : List Int) (w : World) (hr : Reads w w.heap.size 1 A n (zs l)) (hl : ∀ x ∈ l, In64 x) (hnc : n ≤ c) (hn : n ≤ 65536) :
    Calls Tryz.prog 156 #[.slice A n c] w (New w (bs (dl l)) (dl l).length) := by
  have e1 : n = l.length := by have := hr.1; rw [zs_length] at this; omega
  match l, hr, hl, e1 with
  | [], hr, _, e1 => subst e1; exact refDl_nil A c w hr
  | [z], hr, hl, e1 => subst e1; exact refDl_one A c z w hr (hl z (by simp)) hnc
  | z :: y :: r, hr, hl, _ => exact refDl_two A n c z y r w hr hl hnc hn
end Go.Proofs.YtpgdlmnhomnblaaGreatDoor
