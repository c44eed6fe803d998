/- Texts joined: Unpack PackBack. -/
import Derived.Test.YtppeagjklndidaaGreatDoorUnpacked
import Derived.Test.YtppeagjklndidaaGreatDoorJ20
/- Contract of package bits' Unpack: the numbers, or the error's number. No condition beside the length. -/
namespace Go.Proofs.YtppeagjklndidaaGreatDoor
open Go.RowKit
set_option linter.unusedVariables false
set_option linter.unusedSimpArgs false
set_option maxRecDepth 100000

/-- The error's number of unpacking. -/
def unpackE (b : List Nat) (n w : Int) : Nat :=
  if szI n w < 0 then 1 else if (b.length : Int) < szI n w then 2 else if szI n w < (b.length : Int) then 3 else if pk 8 b < 2 ^ (w.toNat * n.toNat) then 0 else 4
/-- The numbers of unpacking. -/
def unpackS (b : List Nat) (n w : Int) : List Nat := if unpackE b n w = 0 then dg w.toNat n.toNat (pk 8 b) else []
theorem unpackE_0 {b : List Nat} {n w : Int} (h : unpackE b n w = 0) : 0 ≤ n ∧ n ≤ 65536 ∧ 0 ≤ w ∧ w ≤ 64 ∧ b.length = sz n.toNat w.toNat ∧ pk 8 b < 2 ^ (w.toNat * n.toNat) := by
  unfold unpackE szI at h
  by_cases h1 : 0 ≤ n ∧ n ≤ 65536 ∧ 0 ≤ w ∧ w ≤ 64
  · simp only [if_pos h1] at h
    rw [if_neg (by omega)] at h
    by_cases h2 : (b.length : Int) < (sz n.toNat w.toNat : Int)
    · rw [if_pos h2] at h; omega
    · rw [if_neg h2] at h
      by_cases h3 : (sz n.toNat w.toNat : Int) < (b.length : Int)
      · rw [if_pos h3] at h; omega
      · rw [if_neg h3] at h
        by_cases h4 : pk 8 b < 2 ^ (w.toNat * n.toNat)
        · exact ⟨by omega, by omega, by omega, by omega, by omega, h4⟩
        · rw [if_neg h4] at h; omega
  · simp only [if_neg h1] at h
    rw [if_pos (by omega)] at h; omega

set_option maxHeartbeats 1000000 in
theorem unpack_any (A : Option Addr) (m c : Nat) (b : List Nat) (n wi : Int) (w : World) (hr : Reads w w.heap.size 1 A m (bs b)) (hb : ∀ x ∈ b, x < 256) (hm : m ≤ 140737488355328)
    (hn : -9223372036854775808 ≤ n ∧ n ≤ 9223372036854775807) (hw : -9223372036854775808 ≤ wi ∧ wi ≤ 9223372036854775807) :
    Calls Tryz.prog 61 #[.slice A m c, .int .i64 n, .int .i64 wi] w (New64E w (unpackS b n wi) (unpackE b n wi)) := by
  have e1 : b.length = m := by have := hr.1; rw [bs_length] at this; omega
  obtain ⟨z, hz⟩ : ∃ z, z = szI n wi := ⟨_, rfl⟩
  have hzr : -1 ≤ z ∧ z ≤ 524289 := by
    rw [hz]; unfold szI
    by_cases h1 : 0 ≤ n ∧ n ≤ 65536 ∧ 0 ≤ wi ∧ wi ≤ 64
    · rw [if_pos h1]
      have := sz_small n.toNat wi.toNat (by omega) (by omega)
      unfold sz; omega
    · rw [if_neg h1]; omega
  have HZ := Lib.hid hz
  have HE : Hid (unpackE b n wi = if z < 0 then 1 else if (b.length : Int) < z then 2 else if z < (b.length : Int) then 3 else if pk 8 b < 2 ^ (wi.toNat * n.toNat) then 0 else 4) := by rw [hz]; exact Lib.hid rfl
  have HS : Hid (unpackS b n wi = if unpackE b n wi = 0 then dg wi.toNat n.toNat (pk 8 b) else []) := Lib.hid rfl
  clear hz
  have E1 := Lib.hid e1
  by_cases h1 : z < 0
  · clear e1
    go_enter Tryz.func61, Tryz.ntmps61
    go_wp2_with (go_at_call 80; refine (size_any n wi _ hn hw).mono ?_; rintro e w' ⟨rfl, rfl⟩; rw [← HZ.out])
    go_ret2
    have hE : unpackE b n wi = 1 := by rw [HE.out, if_pos h1]
    rw [HS.out, hE, if_neg (by omega)]
    exact ⟨.slice none 0 0, rfl, own_nil _ _ _ _, Below.refl _ _⟩
  · by_cases h2 : (m : Int) < z
    · clear e1
      go_enter Tryz.func61, Tryz.ntmps61
      go_wp2_with (go_at_call 80; refine (size_any n wi _ hn hw).mono ?_; rintro e w' ⟨rfl, rfl⟩; rw [← HZ.out])
      go_ret2
      have hE : unpackE b n wi = 2 := by rw [HE.out, E1.out, if_neg (show ¬ z < 0 by omega), if_pos h2]
      rw [HS.out, hE, if_neg (by omega)]
      exact ⟨.slice none 0 0, rfl, own_nil _ _ _ _, Below.refl _ _⟩
    · by_cases h3 : z < (m : Int)
      · clear e1
        go_enter Tryz.func61, Tryz.ntmps61
        go_wp2_with (go_at_call 80; refine (size_any n wi _ hn hw).mono ?_; rintro e w' ⟨rfl, rfl⟩; rw [← HZ.out])
        go_ret2
        have hE : unpackE b n wi = 3 := by rw [HE.out, E1.out, if_neg (show ¬ z < 0 by omega), if_neg (show ¬ (m : Int) < z by omega), if_pos h3]
        rw [HS.out, hE, if_neg (by omega)]
        exact ⟨.slice none 0 0, rfl, own_nil _ _ _ _, Below.refl _ _⟩
      · have h4 : 0 ≤ n ∧ n ≤ 65536 ∧ 0 ≤ wi ∧ wi ≤ 64 := by
          have hz := HZ.out
          unfold szI at hz
          by_cases h : 0 ≤ n ∧ n ≤ 65536 ∧ 0 ≤ wi ∧ wi ≤ 64
          · exact h
          · rw [if_neg h] at hz; omega
        have hz : z = (sz n.toNat wi.toNat : Int) := by rw [HZ.out]; unfold szI; rw [if_pos h4]
        obtain ⟨h5, h6, h7, h8⟩ := h4
        obtain ⟨n, rfl⟩ := Int.eq_ofNat_of_zero_le h5
        obtain ⟨wN, rfl⟩ := Int.eq_ofNat_of_zero_le h7
        simp only [Int.toNat_natCast] at hz
        have hb2 : b.length = sz n wN := by omega
        have HL := Lib.hid (And.intro hz hb2); clear hz hb2 e1
        go_enter Tryz.func61, Tryz.ntmps61
        go_wp2_with (first
          | (go_at_call 80; refine (size_any (n : Int) (wN : Int) _ hn hw).mono ?_; rintro e w' ⟨rfl, rfl⟩; rw [← HZ.out])
          | (go_at_call 85; refine (unpacked_any A m c b n wN _ hr hb (by omega) (by omega) HL.out.2).mono ?_; rintro e w' ⟨v, rfl, hown, hbl⟩))
        go_ret2
        have hE : unpackE b (n : Int) (wN : Int) = (unpackedS b n wN).2 := by
          rw [HE.out, E1.out, if_neg (show ¬ z < 0 by omega), if_neg (show ¬ (m : Int) < z by omega), if_neg (show ¬ z < (m : Int) by omega)]
          unfold unpackedS
          simp only [Int.toNat_natCast]
          split <;> rfl
        have hS : unpackS b (n : Int) (wN : Int) = (unpackedS b n wN).1 := by
          rw [HS.out, hE]
          unfold unpackedS
          simp only [Int.toNat_natCast]
          split <;> rfl
        rw [hE, hS]
        exact ⟨v, rfl, hown, hbl⟩
end Go.Proofs.YtppeagjklndidaaGreatDoor

/- Plain facts: what is packed is unpacked as it was, and the other way. -/
namespace Go.Proofs.YtppeagjklndidaaGreatDoor
open Go.RowKit
set_option linter.unusedVariables false
set_option linter.unusedSimpArgs false
set_option maxRecDepth 100000

theorem unpackE_pack (l : List Nat) (k : Nat) (hl : l.length ≤ 65536) (hk : k ≤ 64) (hd : wd l ≤ k) : unpackE (packB k l) (l.length : Int) (k : Int) = 0 ∧ unpackS (packB k l) (l.length : Int) (k : Int) = l := by
  have hlt := (wd_le l k).1 hd
  have hz : szI (l.length : Int) (k : Int) = (sz l.length k : Int) := by unfold szI; rw [if_pos (by omega)]; simp
  have hE : unpackE (packB k l) (l.length : Int) (k : Int) = 0 := by
    unfold unpackE
    rw [hz, packB_length, if_neg (by omega), if_neg (by omega), if_neg (by omega), pk_packB k l hlt]
    simp only [Int.toNat_natCast]
    rw [if_pos (pk_lt k l hlt)]
  refine ⟨hE, ?_⟩
  unfold unpackS
  rw [if_pos hE]
  simp only [Int.toNat_natCast]
  exact unpack_pack k l hlt
/-- What is unpacked is packed as it was. -/
theorem pack_again (b : List Nat) (n w : Int) (hb : ∀ x ∈ b, x < 256) (h : unpackE b n w = 0) : packE (unpackS b n w) w = 0 ∧ packS (unpackS b n w) w = b ∧ (unpackS b n w).length = n.toNat ∧ (∀ a ∈ unpackS b n w, a < 18446744073709551616) ∧ 0 ≤ n ∧ n ≤ 65536 ∧ 0 ≤ w ∧ w ≤ 64 := by
  obtain ⟨h1, h2, h3, h4, h5, h6⟩ := unpackE_0 h
  have hS : unpackS b n w = dg w.toNat n.toNat (pk 8 b) := by unfold unpackS; rw [if_pos h]
  have hlt : ∀ a ∈ dg w.toNat n.toNat (pk 8 b), a < 2 ^ w.toNat := dg_lt _ _ _
  have hwd : wd (dg w.toNat n.toNat (pk 8 b)) ≤ w.toNat := (wd_le _ _).2 hlt
  obtain ⟨h7, h8⟩ := packE_ok (dg w.toNat n.toNat (pk 8 b)) w.toNat (by rw [dg_length]; omega) (by omega) hwd
  rw [Int.toNat_of_nonneg h3] at h7 h8
  rw [hS]
  refine ⟨h7, ?_, dg_length _ _ _, fun a ha => ?_, h1, h2, h3, h4⟩
  · rw [h8, pack_unpack w.toNat n.toNat b hb h5 h6]
  · exact Nat.lt_of_lt_of_le (hlt a ha) (Nat.pow_le_pow_right (j := 64) (by omega) (by omega))
end Go.Proofs.YtppeagjklndidaaGreatDoor
