/- The walk of the statement BitsBack: what is packed is unpacked as it was; what is unpacked is packed as it was; a lesser width than the least doesn't take it. -/
import Derived.Test.YtfbapgoecmmepaaBitsParts
namespace Go.Proofs.Ytfbapgoecmmepaa
open Go.RowKit
set_option linter.unusedVariables false
set_option maxRecDepth 100000

theorem unpackE_pack (l : List Nat) (k : Nat) (hl : l.length ≤ 65536) (hk : k ≤ 64) (hd : wd l ≤ k) : unpackE (packB k l) (l.length : Int) (k : Int) = 0 ∧ unpackS (packB k l) (l.length : Int) (k : Int) = l := by
  have hlt := (wd_le l k).1 hd
  have hz : szI (l.length : Int) (k : Int) = (sz l.length k : Int) := by unfold szI; rw [if_pos (by omega)]; simp
  have hE : unpackE (packB k l) (l.length : Int) (k : Int) = 0 := by
    unfold unpackE
    rw [hz, packB_length, if_neg (by omega), if_neg (by omega), if_neg (by omega), pk_packB k l hlt]
    simp only [Int.toNat_natCast]
    rw [if_pos (pk_lt k l hlt)]
  refine ⟨hE, ?_⟩
  unfold unpackS
  rw [if_pos hE]
  simp only [Int.toNat_natCast]
  exact unpack_pack k l hlt
theorem unpack_ok (A : Option Addr) (m c : Nat) (l : List Nat) (kI : Int) (k n : Nat) (w : World) (hkI : kI = (k : Int)) (hr : Reads w w.heap.size 1 A m (bs (packB k l))) (hn : l.length = n) (hl : n ≤ 65536) (hk : k ≤ 64) (hd : wd l ≤ k) :
    Calls Try.prog 15 #[.slice A m c, .int .i64 (n : Int), .int .i64 kI] w (New64E w l 0) := by
  subst hkI
  subst hn
  have hm : m = sz l.length k := by have := hr.1; rw [bs_length, packB_length] at this; omega
  have hs := sz_small l.length k hl hk
  have h := unpack_any A m c (packB k l) (l.length : Int) (k : Int) w hr (packB_byte k l) (by rw [hm]; unfold sz; omega) (by omega) (by omega)
  obtain ⟨h1, h2⟩ := unpackE_pack l k hl hk hd
  rwa [h1, h2] at h
theorem pack_less (A : Option Addr) (n c : Nat) (l : List Nat) (kI : Int) (w : World) (hr : Reads w w.heap.size 1 A n (us l)) (hl : ∀ a ∈ l, a < 18446744073709551616) (hn : n ≤ 65536) (hk : kI = (wd l : Int) - 1) (h0 : 0 < wd l) (h64 : wd l ≤ 64) :
    Calls Try.prog 8 #[.slice A n c, .int .i64 kI] w (NewE w [] 5) := by
  have e1 : l.length = n := by have := hr.1; rw [us_length] at this; omega
  have h := pack_any A n c l kI w hr hl (by omega) (by omega)
  have hz : szI (l.length : Int) kI = (sz l.length kI.toNat : Int) := by unfold szI; rw [if_pos (by omega)]; simp
  have hE : packE l kI = 5 := by unfold packE; rw [hz, if_neg (by omega), if_pos (by omega)]
  have hS : packS l kI = [] := by unfold packS; rw [if_neg (by omega)]
  rwa [hE, hS] at h
/-- What is unpacked is packed as it was. -/
theorem pack_again (b : List Nat) (n w : Int) (hb : ∀ x ∈ b, x < 256) (h : unpackE b n w = 0) : packE (unpackS b n w) w = 0 ∧ packS (unpackS b n w) w = b ∧ (unpackS b n w).length = n.toNat ∧ (∀ a ∈ unpackS b n w, a < 18446744073709551616) ∧ 0 ≤ n ∧ n ≤ 65536 ∧ 0 ≤ w ∧ w ≤ 64 := by
  obtain ⟨h1, h2, h3, h4, h5, h6⟩ := unpackE_0 h
  have hS : unpackS b n w = dg w.toNat n.toNat (pk 8 b) := by unfold unpackS; rw [if_pos h]
  have hlt : ∀ a ∈ dg w.toNat n.toNat (pk 8 b), a < 2 ^ w.toNat := dg_lt _ _ _
  have hwd : wd (dg w.toNat n.toNat (pk 8 b)) ≤ w.toNat := (wd_le _ _).2 hlt
  obtain ⟨h7, h8⟩ := packE_ok (dg w.toNat n.toNat (pk 8 b)) w.toNat (by rw [dg_length]; omega) (by omega) hwd
  rw [Int.toNat_of_nonneg h3] at h7 h8
  rw [hS]
  refine ⟨h7, ?_, dg_length _ _ _, fun a ha => ?_, h1, h2, h3, h4⟩
  · rw [h8, pack_unpack w.toNat n.toNat b hb h5 h6]
  · exact Nat.lt_of_lt_of_le (hlt a ha) (Nat.pow_le_pow_right (j := 64) (by omega) (by omega))

theorem size_ok (n1 k : Nat) (kI : Int) (p : List Nat) (W : World) (hk : kI = (k : Int)) (h1 : n1 ≤ 65536) (h2 : k ≤ 64) (hp : p.length = sz n1 k) :
    Calls Try.prog 13 #[.int .i64 (n1 : Int), .int .i64 kI] W fun e w' => e = .returned (.int .i64 (p.length : Int)) ∧ W = w' := by
  subst hk
  have h := size_any (n1 : Int) (k : Int) W (by omega) (by omega)
  have hz : szI (n1 : Int) (k : Int) = (p.length : Int) := by unfold szI; rw [if_pos (by omega), hp]; simp
  rwa [hz] at h
theorem back_awake (A1 A2 : Option Addr) (n1 c1 n2 c2 x : Nat) (n wi : Int) (w : World) (h : 200 < n1 ∨ 500 < n2) :
    Calls Try.prog 5 #[.slice A1 n1 c1, .int .u8 (x : Int), .slice A2 n2 c2, .int .i64 n, .int .i64 wi] w fun e w' => e = .returned (.bool true) ∧ Below w.heap.size w w' := by
  by_cases g1 : 200 < n1
  · clear h
    go_enter Try.func5, Try.ntmps5
    go_wp2_with fail
    refine (awake_any w).mono ?_
    rintro e w8 ⟨rfl, hb8⟩
    go_wp2_with fail
    go_ret
    exact ⟨rfl, hb8⟩
  · have g2 : 500 < n2 := by omega
    clear h
    go_enter Try.func5, Try.ntmps5
    go_wp2_with fail
    refine (awake_any w).mono ?_
    rintro e w8 ⟨rfl, hb8⟩
    go_wp2_with fail
    go_ret
    exact ⟨rfl, hb8⟩

set_option maxHeartbeats 2000000 in
theorem back_main (A1 A2 : Option Addr) (n1 c1 n2 c2 x : Nat) (n wi : Int) (l lb : List Nat) (w : World) (h1 : Reads w w.heap.size 1 A1 n1 (us l)) (h2 : Reads w w.heap.size 1 A2 n2 (bs lb)) (hl : ∀ a ∈ l, a < 18446744073709551616) (hlb : ∀ a ∈ lb, a < 256) (hx : x < 256)
    (hn1 : n1 ≤ 200) (hn2 : n2 ≤ 500) (hn : -9223372036854775808 ≤ n ∧ n ≤ 9223372036854775807) (hw : -9223372036854775808 ≤ wi ∧ wi ≤ 9223372036854775807) :
    Calls Try.prog 5 #[.slice A1 n1 c1, .int .u8 (x : Int), .slice A2 n2 c2, .int .i64 n, .int .i64 wi] w fun e w' => e = .returned (.bool true) ∧ Below w.heap.size w w' := by
  have e1 : l.length = n1 := by have := h1.1; rw [us_length] at this; omega
  have e2 : lb.length = n2 := by have := h2.1; rw [bs_length] at this; omega
  have E := Lib.hid (And.intro e1 e2); clear e1 e2
  have hd64 : wd l ≤ 64 := (wd_le l 64).2 (by intro a ha; have := hl a ha; omega)
  obtain ⟨k, hk⟩ : ∃ k, k = min 64 (wd l + x % 9) := ⟨_, rfl⟩
  have hkI : min (64 : Int) ((wd l : Int) + (x : Int) % 9) = (k : Int) := by omega
  have hk64 : k ≤ 64 := by omega
  have hdk : wd l ≤ k := by omega
  clear hk
  go_enter Try.func5, Try.ntmps5
  go_wp2_with fail
  refine (width_any A1 n1 c1 l _ h1 hl (by omega)).mono ?_
  rintro e w' ⟨rfl, rfl⟩
  go_wp2_with fail
  refine (pack_ok A1 n1 c1 l _ k (by first | rfl | exact hkI) w h1 hl (by omega) hk64 hdk).mono ?_
  rintro e w1 ⟨v1, rfl, hown1, hb1⟩
  obtain ⟨B1, d1, rfl, _, _, r1⟩ := own_slice hown1
  go_wp2_with fail
  refine (unpack_ok B1 _ d1 l _ k n1 w1 (by first | rfl | exact hkI) r1 E.out.1 (by omega) hk64 hdk).mono ?_
  rintro e w2 ⟨v2, rfl, hown2, hb2⟩
  obtain ⟨B2, d2, rfl, _, _, r2⟩ := own_slice hown2
  have hz1 := hb1.size
  have hz2 := hb2.size
  have hb02 : Below w.heap.size w w2 := hb1.trans (hb2.mono hz1)
  go_wp2_with fail
  refine (same64_true B2 A1 l.length d2 n1 c1 l w2 r2 ((h1.below hb02).more hb02.size) (by have := E.out.1; omega)).mono ?_
  rintro e w3 ⟨rfl, hd3⟩
  have hb03 := hd3.below hb02
  go_wp2_with fail
  refine (size_ok n1 k _ (packB k l) w3 (by first | rfl | exact hkI) (by omega) hk64 (by rw [packB_length, E.out.1])).mono ?_
  rintro e w' ⟨rfl, rfl⟩
  by_cases h0 : 0 < wd l
  case' pos =>
    go_wp2_with fail
    refine (pack_less A1 n1 c1 l _ w3 ((h1.below hb03).more hb03.size) hl (by omega) rfl h0 hd64).mono ?_
    rintro e w4 ⟨v4, rfl, hown4, hb4⟩
    have hb04 : Below w.heap.size w w4 := hb03.trans (hb4.mono hb03.size)
    obtain ⟨wq, rfl⟩ : ∃ wq : World, wq = w4 := ⟨_, rfl⟩
    have hbq := hb04
    go_wp2_with fail
  case' neg =>
    obtain ⟨wq, rfl⟩ : ∃ wq : World, wq = w3 := ⟨_, rfl⟩
    have hbq := hb03
    go_wp2_with fail
  all_goals
    by_cases hu : unpackE lb n wi = 0
    · have hcall := unpack_any A2 n2 c2 lb n wi wq ((h2.below hbq).more hbq.size) hlb (by omega) hn hw
      obtain ⟨q1, q2, q3, q4, q5, q6, q7, q8⟩ := pack_again lb n wi hlb hu
      rw [hu] at hcall
      generalize unpackS lb n wi = us5 at hcall q1 q2 q3 q4
      have hlen : ((us5.length : Int) == n) = true := by rw [q3]; simp; omega
      have hcall2 := fun B5 d5 W (r5 : Reads W W.heap.size 1 B5 us5.length (us us5)) => pack_any B5 us5.length d5 us5 wi W r5 q4 (by omega) hw
      rw [q1, q2] at hcall2
      have Q := Lib.hid (And.intro q1 (And.intro q2 q3))
      clear q1 q2 q3 hu
      refine hcall.mono ?_
      clear hcall
      rintro e w5 ⟨v5, rfl, hown5, hb5⟩
      obtain ⟨B5, d5, rfl, _, _, r5⟩ := own_slice hown5
      have hb05 : Below w.heap.size w w5 := hbq.trans (hb5.mono hbq.size)
      have hcall3 := hcall2 B5 d5 w5 r5
      clear hcall2
      go_wp2_with fail
      refine hcall3.mono ?_
      clear hcall3
      rintro e w6 ⟨v6, rfl, hown6, hb6⟩
      obtain ⟨B6, d6, rfl, _, _, r6⟩ := own_slice hown6
      have hb06 : Below w.heap.size w w6 := hb05.trans (hb6.mono hb05.size)
      go_wp2_with fail
      refine (same_true B6 A2 lb.length d6 n2 c2 lb w6 r6 ((h2.below hb06).more hb06.size) (by have := E.out.2; omega)).mono ?_
      rintro e w7 ⟨rfl, hd7⟩
      have hb07 := hd7.below hb06
      go_wp2_with fail
      refine (awake_any w7).mono ?_
      rintro e w8 ⟨rfl, hb8⟩
      go_wp2_with fail
      go_ret
      exact ⟨rfl, hb07.trans (hb8.mono hb07.size)⟩
    · have hcall := unpack_any A2 n2 c2 lb n wi wq ((h2.below hbq).more hbq.size) hlb (by omega) hn hw
      generalize unpackE lb n wi = ue at hcall hu
      generalize unpackS lb n wi = us5 at hcall
      have hue : ((ue : Int) == 0) = false := by simp; omega
      refine hcall.mono ?_
      clear hcall
      rintro e w5 ⟨v5, rfl, hown5, hb5⟩
      have hb05 : Below w.heap.size w w5 := hbq.trans (hb5.mono hbq.size)
      go_wp2_with fail
      refine (awake_any w5).mono ?_
      rintro e w8 ⟨rfl, hb8⟩
      go_wp2_with fail
      go_ret
      exact ⟨rfl, hb05.trans (hb8.mono hb05.size)⟩
end Go.Proofs.Ytfbapgoecmmepaa
