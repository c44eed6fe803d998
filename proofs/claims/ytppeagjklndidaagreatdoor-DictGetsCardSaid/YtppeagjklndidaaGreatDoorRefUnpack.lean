/- Contract of the document's Unpack: the numbers, or the error's number. No condition beside the length. -/
import Derived.Deep.LoopGhost
import Derived.Test.YtppeagjklndidaaGreatDoorRefBits
import Derived.Test.YtppeagjklndidaaGreatDoorJ27
namespace Go.Proofs.YtppeagjklndidaaGreatDoor
open Go.RowKit
set_option linter.unusedVariables false
set_option linter.unusedSimpArgs false
set_option maxRecDepth 100000

theorem mod_more (V i : Nat) : V % 2 ^ (i + 1) = V % 2 ^ i + 2 ^ i * (if bitB V i = true then 1 else 0) := by
  rw [← bitB_val, Nat.pow_succ, Nat.mod_mul]
theorem bit_ge (V i : Nat) (h : bitB V i = true) : 2 ^ i ≤ V := by
  unfold bitB at h
  rcases Nat.lt_or_ge V (2 ^ i) with h1 | h1
  · rw [Nat.div_eq_of_lt h1] at h; simp at h
  · exact h1
/-- A byte's bit. -/
theorem byte_bit (b : List Nat) (hb : ∀ x ∈ b, x < 256) (p v : Nat) (h : b[p / 8]? = some v) : bitB v (p % 8) = bitB (pk 8 b) p := by
  rw [bitB_digit 8 b hb (p / 8) (p % 8) v h (Nat.mod_lt _ (by omega))]
  congr 1; omega

set_option maxHeartbeats 2000000 in
theorem refUnpack_len (A : Option Addr) (m c : Nat) (b : List Nat) (n wd' : Nat) (w : World) (hr : Reads w w.heap.size 1 A m (bs b)) (hb : ∀ x ∈ b, x < 256) (hw : wd' ≤ 64) (hn : n ≤ 65536) (hm : b.length = sz n wd') :
    Calls Tryz.prog 21 #[.slice A m c, .int .i64 (n : Int), .int .i64 (wd' : Int)] w (New64E w (unpackedS b n wd').1 (unpackedS b n wd').2) := by
  obtain ⟨i1, hi1, hy0, hy1, hy2⟩ := info_parts info_u64
  have e1 : b.length = m := by have := hr.1; rw [bs_length] at this; omega
  have hs := sz_small n wd' hn hw
  have hs2 : (n : Int) * (wd' : Int) ≤ 4194304 := by rw [← Int.natCast_mul]; omega
  have hs3 : 0 ≤ (n : Int) * (wd' : Int) := by rw [← Int.natCast_mul]; omega
  have hsz : m ≤ 524289 := by rw [← e1, hm]; unfold sz; omega
  have hz : szI (n : Int) (wd' : Int) = (m : Int) := by unfold szI; rw [if_pos (by omega), ← e1, hm]; simp
  have hms : n * wd' ≤ 8 * m := by rw [← e1, hm, Nat.mul_comm n]; exact sz_le n wd'
  obtain ⟨V, hV⟩ : ∃ V, V = pk 8 b := ⟨_, rfl⟩
  have hVl : V < 2 ^ (8 * m) := by rw [hV, ← e1]; exact pk_lt 8 b hb
  have HV := Lib.hid (And.intro hV (And.intro hVl e1))
  have HB := Lib.hid hb
  have HZ := Lib.hid hz
  clear hV hVl e1 hb hz hm
  have hnw : (n : Int) * (wd' : Int) = ((n * wd' : Nat) : Int) := by push_cast; rfl
  have HNW := Lib.hid hnw; clear hnw
  have hl1 : decide (m < m) = false := by simp
  go_enter Tryz.func21, Tryz.ntmps21
  go_wp2_with fail
  refine (refSize_any (n : Int) (wd' : Int) _ (by omega) (by omega)).mono ?_
  rintro e w' ⟨rfl, rfl⟩
  rw [HZ.out]
  go_wp2_with fail
  go_loopg [9] (8 * m - n * wd') (fun g s9 wr => ∃ (p : Nat) (pI : Int), p + g = 8 * m ∧ n * wd' ≤ p ∧ s9 = .int .i64 pI ∧ Hid (pI = (p : Int)) ∧ Hid (V % 2 ^ p = V % 2 ^ (n * wd')) ∧ w = wr)
  case atStart => exact ⟨n * wd', (n : Int) * (wd' : Int), by omega, Nat.le_refl _, rfl, HNW, Lib.hid rfl, rfl⟩
  case round =>
    obtain ⟨p, pI, hpg, hnp, rfl, hpI, hlow, rfl⟩ := hrel
    obtain rfl := hpI.out
    cases gk with
    | succ g =>
      have hpm : p / 8 < m := by omega
      obtain ⟨ad, u, rfl, had, hu, hc⟩ := hr.at_ hpm
      obtain ⟨v0, hb0, rfl⟩ := bs_at hu
      have hv256 : v0 < 256 := HB.out v0 (List.mem_of_getElem? hb0)
      have hbit := byte_bit b HB.out p v0 hb0
      rw [← HV.out.1] at hbit
      clear hu hb0
      have hcall := fun W => bit_any v0 ((p : Int) % 8) (p % 8) (by omega) W (by omega) (by omega)
      rw [hbit] at hcall
      clear hbit
      have HM := Lib.hid (mod_more V p)
      cases hbv : bitB V p with
      | true =>
        rw [hbv] at hcall HM
        go_wp2_with fail
        refine (hcall _).mono ?_
        rintro e w' ⟨rfl, rfl⟩
        clear hcall
        have HBG := Lib.hid (bit_ge V p hbv)
        clear hbv
        go_wp2_with fail
        try rw [Exit.noGoto_ret]
        go_ret2
        have hlt : ¬ V < 2 ^ (wd' * n) := by
          have h1 := HBG.out
          have h2 : 2 ^ (wd' * n) ≤ 2 ^ p := Nat.pow_le_pow_right (by omega) (by rw [Nat.mul_comm]; exact hnp)
          omega
        unfold unpackedS
        rw [← HV.out.1, if_neg hlt]
        exact ⟨_, rfl, own_nil _ _ _ _, Below.refl _ _⟩
      | false =>
        rw [hbv] at hcall HM
        clear hbv
        go_wp2_with fail
        refine (hcall _).mono ?_
        rintro e w' ⟨rfl, rfl⟩
        clear hcall
        go_wp2_with fail
        go_roundg g
        case measure => omega
        case rel => exact ⟨p + 1, _, by omega, by omega, rfl, Lib.hid (by omega), Lib.hid (by rw [HM.out, ← hlow.out]; simp), rfl⟩
    | zero =>
      obtain rfl : p = 8 * m := by omega
      have hVn : Hid (V < 2 ^ (n * wd')) := by
        have h1 := hlow.out
        rw [Nat.mod_eq_of_lt HV.out.2.1] at h1
        have h2 : V % 2 ^ (n * wd') < 2 ^ (n * wd') := Nat.mod_lt _ (Nat.two_pow_pos _)
        exact Lib.hid (by omega)
      clear hlow
      go_wp2_with fail
      go_loopg [10, 11, 12, 13, 14] n (fun g s10 s11 s12 s13 s14 wy => ∃ i : Nat, i + g = n ∧ s11 = .int .i64 (i : Int) ∧ wy.ownsRow w.heap.size 46 1 s10 i (us (dg wd' i V)) ∧ Below w.heap.size w wy)
      case atStart => exact ⟨0, by omega, rfl, own_nil _ _ _ _, Below.refl _ _⟩
      case round =>
        obtain ⟨i, hig, rfl, hown, hbl⟩ := hrel
        have hzw := hbl.size
        cases gk with
        | zero =>
          have hin : Hid (i = n) := Lib.hid (by omega)
          have hlt : ¬ i < n := by omega
          go_wp2_with fail
          go_ret2
          have h1 := hin.out
          subst h1
          unfold unpackedS
          have hlt' : V < 2 ^ (wd' * i) := by rw [Nat.mul_comm]; exact hVn.out
          rw [← HV.out.1, if_pos hlt']
          exact ⟨_, rfl, by rw [dg_length]; exact hown, hbl⟩
        | succ g =>
          have hlt : i < n := by omega
          have hiw : (i + 1) * wd' ≤ n * wd' := Nat.mul_le_mul_right _ (by omega)
          have hiw2 : (i + 1) * wd' = i * wd' + wd' := Nat.succ_mul _ _
          have hj1 : i * wd' + wd' ≤ 8 * m := by omega
          have hj2 : (i : Int) * (wd' : Int) = ((i * wd' : Nat) : Int) := by push_cast; rfl
          have hj3 : (i : Int) * (wd' : Int) ≤ 4194304 := by rw [hj2]; omega
          have hj4 : 0 ≤ (i : Int) * (wd' : Int) := by rw [hj2]; omega
          have HJ := Lib.hid hj2
          clear hj2 hiw hiw2
          go_wp2_with fail
          go_loopg [12, 13, 14] wd' (fun g2 s12 s13 s14 wz => ∃ (v : Nat) (kI : Int), s13 = .int .i64 kI ∧ Hid (kI = (g2 : Int) - 1) ∧ s12 = .int .u64 (v : Int) ∧ Hid (v = V / 2 ^ (i * wd' + g2) % 2 ^ (wd' - g2)) ∧ g2 ≤ wd' ∧ wr = wz)
          case atStart => exact ⟨0, _, rfl, Lib.hid rfl, rfl, Lib.hid (by simp [Nat.mod_one]), Nat.le_refl _, rfl⟩
          case round =>
            obtain ⟨v, kI, rfl, hkI, rfl, hv, hg2, rfl⟩ := hrel
            have hv64 : v < 18446744073709551616 := by rw [hv.out]; exact word_mod _ _ (by omega)
            cases gk with
            | zero =>
              obtain rfl : kI = -1 := by have := hkI.out; omega
              go_wp2_with (at_builtin
                           refine wpList_append_any _ rfl (.tmp 75) (.tmp 77) _ rfl w.heap.size 46 i1 _ 1 8 Tryz.underlying51 hi1 hy0 hy1 hy2 rfl (by omega) u10 i (us (dg wd' i V)) rfl
                             (hown.alloc _) (wr.heap.size + 1) (some ⟨wr.heap.size, 0, none⟩) 1 1 [.int .u64 (v : Int)] rfl (Reads.new wr _ _) (one_int _ _) (by unfold maxLen; omega) (by omega) (by simp; omega) ?_
                           intro v2 w2 hown2 hg2' hat2)
              go_roundg g
              case measure => omega
              case rel =>
                have hb := us_snoc [] (dg wd' i V) v (v : Int) rfl
                simp only [List.nil_append] at hb
                rw [hb, show v = V / 2 ^ (wd' * i) % 2 ^ wd' by rw [Nat.mul_comm wd' i]; exact hv.out, ← dg_snoc] at hown2
                exact ⟨i + 1, by omega, by go_num, hown2, below_app hbl hown hzw hg2'⟩
            | succ j =>
              obtain rfl : kI = (j : Int) := by have := hkI.out; omega
              have hjm : i * wd' + j < 8 * m := by omega
              have hq : (i * wd' + j) / 8 < m := by omega
              obtain ⟨ad, u, rfl, had, hu, hc⟩ := (hr.below hbl).at_ hq
              obtain ⟨v0, hb0, rfl⟩ := bs_at hu
              have hv256 : v0 < 256 := HB.out v0 (List.mem_of_getElem? hb0)
              have hbit := byte_bit b HB.out (i * wd' + j) v0 hb0
              rw [← HV.out.1] at hbit
              clear hu hb0
              have hv63 : 2 * v < 18446744073709551616 := by
                have h1 : v < 2 ^ (wd' - (j + 1)) := by rw [hv.out]; exact Nat.mod_lt _ (Nat.two_pow_pos _)
                have h2 : 2 ^ (wd' - (j + 1)) ≤ 2 ^ 63 := Nat.pow_le_pow_right (by omega) (by omega)
                omega
              have hstep := bit_down V (i * wd' + j) (wd' - (j + 1))
              rw [show wd' - (j + 1) + 1 = wd' - j by omega, Nat.add_assoc (i * wd'), ← hv.out, bitB_val] at hstep
              have hcall := fun W => bit_any v0 (((i : Int) * (wd' : Int) + (j : Int)) % 8) ((i * wd' + j) % 8) (by rw [HJ.out]; omega) W (by omega) (by omega)
              rw [hbit] at hcall
              clear hbit
              have HS := Lib.hid hstep; clear hstep
              have htn : (((i : Int) * (wd' : Int) + (j : Int)) / 8).toNat = (i * wd' + j) / 8 := by rw [HJ.out]; omega
              cases hbv : bitB V (i * wd' + j) with
              | true =>
                rw [hbv] at hcall HS
                clear hbv
                go_wp2_with fail
                refine (hcall _).mono ?_
                rintro e w' ⟨rfl, rfl⟩
                clear hcall
                go_wp2_with fail
                go_roundg j
                case measure => omega
                case rel => exact ⟨2 * v + 1, (j : Int) - 1, rfl, Lib.hid rfl, by go_num, Lib.hid (by rw [HS.out]; rfl), by omega, rfl⟩
              | false =>
                rw [hbv] at hcall HS
                clear hbv
                go_wp2_with fail
                refine (hcall _).mono ?_
                rintro e w' ⟨rfl, rfl⟩
                clear hcall
                go_wp2_with fail
                go_roundg j
                case measure => omega
                case rel => exact ⟨2 * v, (j : Int) - 1, rfl, Lib.hid rfl, by go_num, Lib.hid (by rw [HS.out]; rfl), by omega, rfl⟩
set_option maxHeartbeats 1000000 in
theorem refUnpack_any (A : Option Addr) (m c : Nat) (b : List Nat) (n wi : Int) (w : World) (hr : Reads w w.heap.size 1 A m (bs b)) (hb : ∀ x ∈ b, x < 256) (hm : m ≤ 140737488355328)
    (hn : -9223372036854775808 ≤ n ∧ n ≤ 9223372036854775807) (hw : -9223372036854775808 ≤ wi ∧ wi ≤ 9223372036854775807) :
    Calls Tryz.prog 21 #[.slice A m c, .int .i64 n, .int .i64 wi] w (New64E w (unpackS b n wi) (unpackE b n wi)) := by
  have e1 : b.length = m := by have := hr.1; rw [bs_length] at this; omega
  obtain ⟨z, hz⟩ : ∃ z, z = szI n wi := ⟨_, rfl⟩
  have hzr : -1 ≤ z ∧ z ≤ 524289 := by
    rw [hz]; unfold szI
    by_cases h1 : 0 ≤ n ∧ n ≤ 65536 ∧ 0 ≤ wi ∧ wi ≤ 64
    · rw [if_pos h1]
      have := sz_small n.toNat wi.toNat (by omega) (by omega)
      unfold sz; omega
    · rw [if_neg h1]; omega
  have HZ := Lib.hid hz
  have HE : Hid (unpackE b n wi = if z < 0 then 1 else if (b.length : Int) < z then 2 else if z < (b.length : Int) then 3 else if pk 8 b < 2 ^ (wi.toNat * n.toNat) then 0 else 4) := by rw [hz]; exact Lib.hid rfl
  have HS : Hid (unpackS b n wi = if unpackE b n wi = 0 then dg wi.toNat n.toNat (pk 8 b) else []) := Lib.hid rfl
  clear hz
  have E1 := Lib.hid e1
  by_cases h1 : z < 0
  · clear e1
    go_enter Tryz.func21, Tryz.ntmps21
    go_wp2_with (go_at_call 41; refine (refSize_any n wi _ hn hw).mono ?_; rintro e w' ⟨rfl, rfl⟩; rw [← HZ.out])
    go_ret2
    have hE : unpackE b n wi = 1 := by rw [HE.out, if_pos h1]
    rw [HS.out, hE, if_neg (by omega)]
    exact ⟨.slice none 0 0, rfl, own_nil _ _ _ _, Below.refl _ _⟩
  · by_cases h2 : (m : Int) < z
    · clear e1
      go_enter Tryz.func21, Tryz.ntmps21
      go_wp2_with (go_at_call 41; refine (refSize_any n wi _ hn hw).mono ?_; rintro e w' ⟨rfl, rfl⟩; rw [← HZ.out])
      go_ret2
      have hE : unpackE b n wi = 2 := by rw [HE.out, E1.out, if_neg (show ¬ z < 0 by omega), if_pos h2]
      rw [HS.out, hE, if_neg (by omega)]
      exact ⟨.slice none 0 0, rfl, own_nil _ _ _ _, Below.refl _ _⟩
    · by_cases h3 : z < (m : Int)
      · clear e1
        go_enter Tryz.func21, Tryz.ntmps21
        go_wp2_with (go_at_call 41; refine (refSize_any n wi _ hn hw).mono ?_; rintro e w' ⟨rfl, rfl⟩; rw [← HZ.out])
        go_ret2
        have hE : unpackE b n wi = 3 := by rw [HE.out, E1.out, if_neg (show ¬ z < 0 by omega), if_neg (show ¬ (m : Int) < z by omega), if_pos h3]
        rw [HS.out, hE, if_neg (by omega)]
        exact ⟨.slice none 0 0, rfl, own_nil _ _ _ _, Below.refl _ _⟩
      · have h4 : 0 ≤ n ∧ n ≤ 65536 ∧ 0 ≤ wi ∧ wi ≤ 64 := by
          have hz := HZ.out
          unfold szI at hz
          by_cases h : 0 ≤ n ∧ n ≤ 65536 ∧ 0 ≤ wi ∧ wi ≤ 64
          · exact h
          · rw [if_neg h] at hz; omega
        have hz : z = (sz n.toNat wi.toNat : Int) := by rw [HZ.out]; unfold szI; rw [if_pos h4]
        obtain ⟨h5, h6, h7, h8⟩ := h4
        obtain ⟨n, rfl⟩ := Int.eq_ofNat_of_zero_le h5
        obtain ⟨wN, rfl⟩ := Int.eq_ofNat_of_zero_le h7
        simp only [Int.toNat_natCast] at hz
        have hb2 : b.length = sz n wN := by omega
        have hcall := refUnpack_len A m c b n wN w hr hb (by omega) (by omega) hb2
        clear e1
        have hE : unpackE b (n : Int) (wN : Int) = (unpackedS b n wN).2 := by
          rw [HE.out, E1.out, if_neg (show ¬ z < 0 by omega), if_neg (show ¬ (m : Int) < z by omega), if_neg (show ¬ z < (m : Int) by omega)]
          unfold unpackedS
          simp only [Int.toNat_natCast]
          split <;> rfl
        have hS : unpackS b (n : Int) (wN : Int) = (unpackedS b n wN).1 := by
          rw [HS.out, hE]
          unfold unpackedS
          simp only [Int.toNat_natCast]
          split <;> rfl
        rw [hE, hS]
        exact hcall
end Go.Proofs.YtppeagjklndidaaGreatDoor
