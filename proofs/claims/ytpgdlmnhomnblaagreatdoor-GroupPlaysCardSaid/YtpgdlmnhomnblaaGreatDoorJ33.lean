import Derived.Deep.QuietTactic
import Derived.BigQuiet
import Derived.BigGuard
import Derived.Lib.QuietBelow
import Derived.Test.YtpgdlmnhomnblaaGreatDoorJ22
import Derived.Test.YtpgdlmnhomnblaaGreatDoorJ21
import Derived.Test.YtpgdlmnhomnblaaGreatDoorJ6
import Derived.Deep.LoopGhost
import Derived.Test.YtpgdlmnhomnblaaGreatDoorJ19
import Derived.Test.YtpgdlmnhomnblaaGreatDoorJ4
namespace Go.Proofs.YtpgdlmnhomnblaaGreatDoor
open Go.RowKit
set_option linter.unusedVariables false
set_option linter.unusedSimpArgs false
set_option maxRecDepth 100000
set_option maxHeartbeats 2000000 in
theorem refRow_any (A A' : Option Addr) (n c n' c' : Nat) (s : List Cl) (row : List Vl) (w : World) (hs : Reads w w.heap.size 3 A n (cls s)) (hr : Reads w w.heap.size 3 A' n' (vs row)) (hn : n ≤ 140737488355328) (hn' : n' ≤ 9223372036854775807) :
    Calls Tryz.prog 24 #[.slice A n c, .slice A' n' c'] w fun e w' => e = .returned (.int .i64 (rwE s row)) ∧ Below w.heap.size w w' := by
  have e1 : s.length = n := by have := hs.1; rw [cls_length] at this; omega
  have e2 : row.length = n' := by have := hr.1; rw [vs_length] at this; omega
  obtain ⟨R, hR⟩ : ∃ R, rwE s row = R := ⟨_, rfl⟩
  rw [hR]
  unfold rwE at hR
  by_cases hne : n' = n
  · subst hne
    rw [if_neg (by omega)] at hR
    have HQ0 : Hid (colsE (s.drop 0) (row.drop 0) = R) := Lib.hid (by simpa using hR)
    have HE1 := Lib.hid e1; have HE2 := Lib.hid e2
    clear e1 e2 hR
    go_enter Tryz.func24, Tryz.ntmps24
    go_wp2_with fail
    go_loopw [5] (fun i wr => ∃ k : Nat, k ≤ n' ∧ i = .int .i64 (k : Int) ∧ Hid (colsE (s.drop k) (row.drop k) = R) ∧ Below w.heap.size w wr) (fun i _ => n' - (intOf i).toNat)
    case atStart => exact ⟨0, Nat.zero_le _, rfl, HQ0, Below.refl _ _⟩
    case round =>
      clear HQ0
      obtain ⟨k, hk, rfl, HQ, hb⟩ := hrel
      by_cases hlt : k < n'
      · obtain ⟨⟨kd, nu, wy⟩, hc⟩ : ∃ v, s[k]? = some v := ⟨_, List.getElem?_eq_getElem (by rw [HE1.out]; omega)⟩
        obtain ⟨⟨v0, v1, z⟩, hv⟩ : ∃ v, row[k]? = some v := ⟨_, List.getElem?_eq_getElem (by rw [HE2.out]; omega)⟩
        obtain ⟨b, o, rfl, hb0, y0, y1, y2⟩ := (hs.below hb).col hc
        obtain ⟨b', o', rfl, hb0', x0, x1, x2⟩ := (hr.below hb).val hv
        have k0 := cell_regrown x0; have k1 := cell_regrown x1; have k2 := cell_regrown x2
        have j0 := cell_regrown y0; have j1 := cell_regrown y1
        have hstep := HQ.out
        rw [colsE_step hc hv] at hstep
        have hzs : (⟨z.toArray⟩ : ByteArray).size = z.length := by simp [ByteArray.size]
        have hy : Yields wr.heap.size wr 52 #[vA (v0, v1, z), .int .i64 kd] (.bool (rgt kd (v0, v1, z))) := fun V hbV => (refRight_any (v0, v1, z) kd V).mono fun e w' ⟨he, hb'⟩ => ⟨he, hbV.trans (hb'.mono hbV.size)⟩
        rw [show vA (v0, v1, z) = .agg #[.int .i64 v0, .int .i64 v1, .string ⟨z.toArray⟩] from rfl] at hy
        obtain ⟨g, hg⟩ : ∃ g, rgt kd (v0, v1, z) = g := ⟨_, rfl⟩
        rw [hg] at hy
        have c11 := colE_11 (c := (kd, nu, wy)) (v := (v0, v1, z))
        have c12 := colE_12 (c := (kd, nu, wy)) (v := (v0, v1, z))
        have c00 := colE_0 (c := (kd, nu, wy)) (v := (v0, v1, z))
        simp only [hg] at c11 c12 c00
        obtain ⟨X, hX⟩ : ∃ X, colE (kd, nu, wy) (v0, v1, z) = X := ⟨_, rfl⟩
        rw [hX] at hstep c11 c12 c00
        have HY := Lib.hid hy
        clear hc hv hg hy HQ y2 hX
        cases g with
        | false =>
          have HR : Hid (R = 11) := Lib.hid (by rw [← hstep, c11 (.inl rfl), if_pos (by decide)])
          clear hstep c11 c12 c00
          go_wp2_with fail
          refine wp_region_quiet_below (by kernel_rfl) (by kernel_rfl) ?_
          repeat (go_big_quiet_step (first | (go_at_call 52; exact HY.out.quiet _ _)))
          refine wpQuiet_nil ?_
          intro _ hw'
          obtain ⟨p, hw''⟩ := hw'
          subst hw''
          have hbp := hb.trans ((below_regrown wr p.d p.os).mono hb.size)
          have cz := k2 p.d p.os
          go_wp2_with fail
          go_ret
          exact ⟨by rw [HR.out]; rfl, hbp⟩
        | true =>
          by_cases hv0 : v0 = 0
          · subst hv0
            cases nu with
            | false =>
              have HR : Hid (R = 11) := Lib.hid (by rw [← hstep, c11 (.inr ⟨rfl, rfl⟩), if_pos (by decide)])
              clear hstep c11 c12 c00
              go_wp2_with fail
              refine wp_region_quiet_below (by kernel_rfl) (by kernel_rfl) ?_
              repeat (go_big_quiet_step (first | (go_at_call 52; exact HY.out.quiet _ _)))
              refine wpQuiet_nil ?_
              intro _ hw'
              obtain ⟨p, hw''⟩ := hw'
              subst hw''
              have hbp := hb.trans ((below_regrown wr p.d p.os).mono hb.size)
              have cz := k2 p.d p.os
              go_wp2_with fail
              go_ret
              exact ⟨by rw [HR.out]; rfl, hbp⟩
            | true =>
              have h12 : 65536 < z.length → R = 12 := fun h => by rw [← hstep, c12 (by simp) h, if_pos (by decide)]
              have h0 : ¬ 65536 < z.length → colsE (s.drop (k + 1)) (row.drop (k + 1)) = R := fun h => by rw [← hstep, c00 (by simp) h, if_neg (by decide)]
              clear hstep c11 c12 c00
              by_cases hzl : 65536 < z.length
              · have HR := Lib.hid (h12 hzl)
                have d1 : decide ((65536 : Int) < (z.length : Int)) = true := by simp; omega
                clear h12 h0 hzl
                go_wp2_with fail
                refine wp_region_quiet_below (by kernel_rfl) (by kernel_rfl) ?_
                repeat (go_big_quiet_step (first | (go_at_call 52; exact HY.out.quiet _ _)))
                refine wpQuiet_nil ?_
                intro _ hw'
                obtain ⟨p, hw''⟩ := hw'
                subst hw''
                have hbp := hb.trans ((below_regrown wr p.d p.os).mono hb.size)
                have cz := k2 p.d p.os
                go_wp2_with fail
                go_ret
                exact ⟨by rw [HR.out]; rfl, hbp⟩
              · have HN := Lib.hid (h0 hzl)
                have d1 : decide ((65536 : Int) < (z.length : Int)) = false := by simp; omega
                clear h12 h0 hzl
                go_wp2_with fail
                refine wp_region_quiet_below (by kernel_rfl) (by kernel_rfl) ?_
                repeat (go_big_quiet_step (first | (go_at_call 52; exact HY.out.quiet _ _)))
                refine wpQuiet_nil ?_
                intro _ hw'
                obtain ⟨p, hw''⟩ := hw'
                subst hw''
                have hbp := hb.trans ((below_regrown wr p.d p.os).mono hb.size)
                have cz := k2 p.d p.os
                go_wp2_with fail
                go_round
                case rel => exact ⟨k + 1, by omega, by go_num, HN, hbp⟩
                case measure => simp [intOf]; omega
          · have q : (v0 == 0) = false := by simp [hv0]
            have h12 : 65536 < z.length → R = 12 := fun h => by rw [← hstep, c12 (by simp [hv0]) h, if_pos (by decide)]
            have h0 : ¬ 65536 < z.length → colsE (s.drop (k + 1)) (row.drop (k + 1)) = R := fun h => by rw [← hstep, c00 (by simp [hv0]) h, if_neg (by decide)]
            clear hstep hv0 c11 c12 c00
            by_cases hzl : 65536 < z.length
            · have HR := Lib.hid (h12 hzl)
              have d1 : decide ((65536 : Int) < (z.length : Int)) = true := by simp; omega
              clear h12 h0 hzl
              go_wp2_with fail
              refine wp_region_quiet_below (by kernel_rfl) (by kernel_rfl) ?_
              repeat (go_big_quiet_step (first | (go_at_call 52; exact HY.out.quiet _ _)))
              refine wpQuiet_nil ?_
              intro _ hw'
              obtain ⟨p, hw''⟩ := hw'
              subst hw''
              have hbp := hb.trans ((below_regrown wr p.d p.os).mono hb.size)
              have cz := k2 p.d p.os
              go_wp2_with fail
              go_ret
              exact ⟨by rw [HR.out]; rfl, hbp⟩
            · have HN := Lib.hid (h0 hzl)
              have d1 : decide ((65536 : Int) < (z.length : Int)) = false := by simp; omega
              clear h12 h0 hzl
              go_wp2_with fail
              refine wp_region_quiet_below (by kernel_rfl) (by kernel_rfl) ?_
              repeat (go_big_quiet_step (first | (go_at_call 52; exact HY.out.quiet _ _)))
              refine wpQuiet_nil ?_
              intro _ hw'
              obtain ⟨p, hw''⟩ := hw'
              subst hw''
              have hbp := hb.trans ((below_regrown wr p.d p.os).mono hb.size)
              have cz := k2 p.d p.os
              go_wp2_with fail
              go_round
              case rel => exact ⟨k + 1, by omega, by go_num, HN, hbp⟩
              case measure => simp [intOf]; omega
      · obtain rfl : k = n' := by omega
        have HR : Hid (R = 0) := Lib.hid (by
          have h1 : s.drop k = [] := List.drop_eq_nil_of_le (by rw [HE1.out]; exact Nat.le_refl _)
          have := HQ.out
          rw [h1] at this
          rw [← this]; rfl)
        clear HQ
        go_wp2_with fail
        go_ret
        exact ⟨by rw [HR.out]; rfl, hb⟩
  · rw [if_pos (by omega)] at hR
    subst hR
    have q : ((n' : Int) != (n : Int)) = true := by simp; omega
    clear e1 e2 hne
    go_enter Tryz.func24, Tryz.ntmps24
    go_wp2_with fail
    go_ret
    exact ⟨rfl, Below.refl _ _⟩
end Go.Proofs.YtpgdlmnhomnblaaGreatDoor
namespace Go.Proofs.YtpgdlmnhomnblaaGreatDoor
open Go.RowKit
set_option linter.unusedVariables false
set_option linter.unusedSimpArgs false
set_option maxRecDepth 100000
theorem mod_step (x j : Nat) : x % 2 ^ (j + 1) = x % 2 ^ j + (if x.testBit j then 2 ^ j else 0) := by
  rw [Nat.pow_succ, Nat.mod_mul, Nat.testBit_eq_decide_div_mod_eq]
  have : x / 2 ^ j % 2 = 0 ∨ x / 2 ^ j % 2 = 1 := by omega
  rcases this with h | h <;> simp [h]
theorem take_snoc' (l : List Nat) (t : Nat) (h : t < l.length) : l.take (t + 1) = l.take t ++ [l.getD t 0] := by
  rw [List.take_succ_eq_append_getElem h, List.getD_eq_getElem?_getD, List.getElem?_eq_getElem h]; rfl
set_option maxHeartbeats 1000000 in
theorem refBytes_any (A : Option Addr) (n c : Nat) (L : List Nat) (w : World) (hr : Reads w w.heap.size 1 A n (bl (bit L) n)) (hn : n ≤ 65536) (hok : OkS n L) :
    Calls Tryz.prog 32 #[.slice A n c] w (New w (bs L) L.length) := by
  obtain ⟨i0, hi0, hz0, hz1, hz2⟩ := info_parts info_u8
  have hlen := hok.len
  have HLEN := Lib.hid hlen
  have hl9 : L.length ≤ 8192 := by unfold siz at hlen; omega
  clear hlen
  go_enter Tryz.func32, Tryz.ntmps32
  go_wp2_with fail
  go_loopg [3, 4, 5, 6, 7] L.length (fun gk s3 s4 s5 s6 s7 wr => ∃ t I : Nat, t + gk = L.length ∧ s4 = .int .i64 (I : Int) ∧ Hid (I = 8 * t) ∧ wr.ownsRow w.heap.size 5 1 s3 t (bs (L.take t)) ∧ Below w.heap.size w wr)
  case atStart => exact ⟨0, 0, by omega, rfl, Lib.hid rfl, World.ownsRow_nil _ _ _ _, Below.refl _ _⟩
  case round =>
    obtain ⟨t, I, htg, rfl, hI, hown, hb⟩ := hrel
    have hI9 : I ≤ 65536 := by have := hI.out; omega
    cases gk with
    | zero =>
      obtain rfl : t = L.length := by omega
      have hd : decide ((I : Int) < (n : Int)) = false := by have h1 := hI.out; have h2 := HLEN.out; unfold siz at h2; simp; omega
      have hd' : ¬ I < n := by simpa using hd
      go_wp2_with fail
      go_ret
      refine ⟨_, rfl, ?_, hb⟩
      rwa [List.take_length] at hown
    | succ g1 =>
      have hlt : t < L.length := by omega
      have hd : I < n := by have h1 := hI.out; have h2 := HLEN.out; unfold siz at h2; omega
      have hx := getD_byte hok.byte t
      have hts := take_snoc' L t hlt
      have hbit : ∀ j, j < 8 → bit L (I + j) = (L.getD t 0).testBit j := fun j hj => by rw [hI.out]; exact bit_at L t j hj
      have hover : ∀ j, j ≤ 8 → n = I + j → L.getD t 0 % 2 ^ j = L.getD t 0 := fun j hj hnj => by
        apply Nat.mod_eq_of_lt
        apply Nat.lt_pow_two_of_testBit
        intro i hi
        by_cases h8 : i < 8
        · rw [← hbit i h8]
          cases e : bit L (I + i) with
          | false => rfl
          | true => have := hok.left _ e; omega
        · exact Nat.testBit_lt_two_pow (by have : 2 ^ 8 ≤ 2 ^ i := Nat.pow_le_pow_right (by omega) (by omega); omega)
      obtain ⟨x, hx0⟩ : ∃ x, x = L.getD t 0 := ⟨_, rfl⟩
      rw [← hx0] at hx hts
      simp only [← hx0] at hbit hover
      have HTS := Lib.hid hts
      have HBIT := Lib.hid hbit
      have HOV := Lib.hid hover
      clear hx0 hts hbit hover
      go_wp2_with fail
      go_loopg [5, 6, 7] 8 (fun gk s5 s6 s7 wx => ∃ j y W K : Nat, j + gk = 8 ∧ K ≤ n ∧ s7 = .int .i64 (K : Int) ∧ s5 = .int .i64 (y : Int) ∧ s6 = .int .i64 (W : Int) ∧ Hid (y = x % 2 ^ j ∧ W = 2 ^ j ∧ K = I + j) ∧ W ≤ 256 ∧ y < 256 ∧ wx = wr)
      case atStart => exact ⟨0, 0, 1, I, by omega, by omega, rfl, rfl, rfl, Lib.hid ⟨by simp [Nat.mod_one], rfl, rfl⟩, by omega, by omega, rfl⟩
      case round =>
        obtain ⟨j, y, W, K, hjg, hKn, rfl, rfl, rfl, hyW, hW9, hy9, rfl⟩ := hrel
        have hKI := hyW.out.2.2
        have hzw := hb.size
        by_cases hgo : j < 8 ∧ K < n
        · obtain ⟨hj8, hKn2⟩ := hgo
          obtain ⟨ad, rfl, _, hc⟩ := bl_cell ((hr.below hb).more hb.size) hKn2
          rw [hKI, HBIT.out j hj8, ← hKI] at hc
          have hd8 : decide ((K : Int) < (I : Int) + 8) = true := by simp; omega
          have hms := mod_step x j
          rw [← hyW.out.1, ← hyW.out.2.1] at hms
          have hW2 : W ≤ 128 := by rw [hyW.out.2.1]; exact show 2 ^ j ≤ 2 ^ 7 from Nat.pow_le_pow_right (by omega) (by omega)
          have hmx : x % 2 ^ (j + 1) ≤ x := Nat.mod_le _ _
          have hW3 : 2 * W = 2 ^ (j + 1) := by rw [hyW.out.2.1, Nat.pow_succ, Nat.mul_comm]
          cases hf : x.testBit j with
          | true =>
            rw [hf] at hc hms
            have hyl : y + W < 256 := by simp at hms; omega
            have HM := Lib.hid (And.intro hms (And.intro hW3 hKI))
            clear hf hms hKI hmx hW3
            go_wp2_with fail
            go_roundg (7 - j)
            case measure => omega
            case rel => exact ⟨j + 1, y + W, 2 * W, K + 1, by omega, by omega, by go_num, by go_num, by go_num, Lib.hid ⟨HM.out.1.symm, HM.out.2.1, by rw [HM.out.2.2, Nat.add_assoc]⟩, by omega, by omega, rfl⟩
          | false =>
            rw [hf] at hc hms
            have HM := Lib.hid (And.intro hms (And.intro hW3 hKI))
            clear hf hms hKI hmx hW3
            go_wp2_with fail
            go_roundg (7 - j)
            case measure => omega
            case rel => exact ⟨j + 1, y, 2 * W, K + 1, by omega, by omega, by go_num, by go_num, by go_num, Lib.hid ⟨by rw [HM.out.1]; simp, HM.out.2.1, by rw [HM.out.2.2, Nat.add_assoc]⟩, by omega, by omega, rfl⟩
        · have hxy : y = x := by
            rw [hyW.out.1]
            by_cases hj8 : j = 8
            · subst hj8; exact Nat.mod_eq_of_lt hx
            · exact HOV.out j (by omega) (by omega)
          have HX := Lib.hid hxy
          have hI8 : I + 8 ≤ 65544 := by omega
          by_cases hj8 : j = 8
          · have hd8 : decide ((K : Int) < (I : Int) + 8) = false := by simp; omega
            clear hKI hgo hxy hj8
            go_wp2_with (at_builtin
                         refine wpList_append_any _ rfl (.tmp 36) (.tmp 39) _ rfl w.heap.size 5 i0 _ 1 1 Tryz.underlying66 hi0 hz0 hz1 hz2 rfl (by omega) u3 t (bs (L.take t)) rfl
                           (hown.alloc _) (wr.heap.size + 1) (some ⟨wr.heap.size, 0, none⟩) 1 1 [.int .u8 (y : Int)] rfl (Reads.new wr _ _) (one_int _ _) (by unfold maxLen; omega) (by omega) (by simp; omega) ?_
                         intro v2 w2 hown2 hg2 hat2)
            have hs := bs_snoc [] (L.take t) y _ rfl
            simp only [List.nil_append] at hs
            rw [hs, HX.out, ← HTS.out] at hown2
            clear hs
            go_roundg g1
            case measure => omega
            case rel => exact ⟨t + 1, I + 8, by omega, by go_num, Lib.hid (by rw [hI.out]; omega), hown2, below_app hb hown hzw hg2⟩
          · have hd8 : decide ((K : Int) < (I : Int) + 8) = true := by simp; omega
            have hdn : ¬ K < n := by omega
            clear hKI hgo hxy
            go_wp2_with (at_builtin
                         refine wpList_append_any _ rfl (.tmp 36) (.tmp 39) _ rfl w.heap.size 5 i0 _ 1 1 Tryz.underlying66 hi0 hz0 hz1 hz2 rfl (by omega) u3 t (bs (L.take t)) rfl
                           (hown.alloc _) (wr.heap.size + 1) (some ⟨wr.heap.size, 0, none⟩) 1 1 [.int .u8 (y : Int)] rfl (Reads.new wr _ _) (one_int _ _) (by unfold maxLen; omega) (by omega) (by simp; omega) ?_
                         intro v2 w2 hown2 hg2 hat2)
            have hs := bs_snoc [] (L.take t) y _ rfl
            simp only [List.nil_append] at hs
            rw [hs, HX.out, ← HTS.out] at hown2
            clear hs
            go_roundg g1
            case measure => omega
            case rel => exact ⟨t + 1, I + 8, by omega, by go_num, Lib.hid (by rw [hI.out]; omega), hown2, below_app hb hown hzw hg2⟩
end Go.Proofs.YtpgdlmnhomnblaaGreatDoor
namespace Go.Proofs.YtpgdlmnhomnblaaGreatDoor
open Go.RowKit
set_option linter.unusedVariables false
set_option linter.unusedSimpArgs false
set_option maxRecDepth 100000
theorem refRank_any (A : Option Addr) (n c : Nat) (f : Nat → Bool) (i : Int) (w : World) (hr : Reads w w.heap.size 1 A n (bl f n)) (hn : n ≤ 65536) :
    Calls Tryz.prog 56 #[.slice A n c, .int .i64 i] w fun e w' => e = .returned (.int .i64 (cnt f (min n i.toNat) : Int)) ∧ w = w' := by
  go_enter Tryz.func56, Tryz.ntmps56
  go_wp2_with fail
  go_loop [5, 6] (fun s5 s6 => ∃ k m : Nat, k ≤ n ∧ (k : Int) ≤ max i 0 ∧ s6 = .int .i64 (k : Int) ∧ s5 = .int .i64 (m : Int) ∧ m ≤ k ∧ Hid (m = cnt f k)) (fun _ s6 => n - (intOf s6).toNat)
  case atStart => exact ⟨0, 0, by omega, by omega, rfl, rfl, by omega, Lib.hid rfl⟩
  case round =>
    obtain ⟨k, m, hk, hki, rfl, rfl, hmk, hm⟩ := hrel
    by_cases hlt : k < n
    · by_cases hi : (k : Int) < i
      · obtain ⟨ad, rfl, _, hc⟩ := bl_cell hr hlt
        have hst : cnt f (k + 1) = cnt f k + (if f k then 1 else 0) := rfl
        rw [← hm.out] at hst
        have hd : decide ((k : Int) < i) = true := by simpa using hi
        cases hf : f k with
        | true =>
          rw [hf] at hc hst
          have HST := Lib.hid hst
          clear hf hst
          go_wp2_with fail
          go_round
          case rel => exact ⟨k + 1, m + 1, by omega, by omega, by go_num, by go_num, by omega, Lib.hid HST.out.symm⟩
          case measure => simp [intOf]; omega
        | false =>
          rw [hf] at hc hst
          have HST := Lib.hid hst
          clear hf hst
          go_wp2_with fail
          go_round
          case rel => exact ⟨k + 1, m, by omega, by omega, by go_num, rfl, by omega, Lib.hid HST.out.symm⟩
          case measure => simp [intOf]; omega
      · have hd : decide ((k : Int) < i) = false := by simpa using hi
        have he : min n i.toNat = k := by omega
        have HE := Lib.hid he
        clear he
        go_wp2_with fail
        go_ret
        exact ⟨ret_of (congrArg (Value.int IntKind.i64) (by rw [HE.out, hm.out])), rfl⟩
    · have he : min n i.toNat = k := by omega
      have HE := Lib.hid he
      clear he
      go_wp2_with fail
      go_ret
      exact ⟨ret_of (congrArg (Value.int IntKind.i64) (by rw [HE.out, hm.out])), rfl⟩
end Go.Proofs.YtpgdlmnhomnblaaGreatDoor
