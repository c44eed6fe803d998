/- Contract of package bits' Pack: the bytes, or the error's number. No condition beside the list's length. -/
import Derived.Test.YtppeagjklndidaaPacked
namespace Go.Proofs.Ytppeagjklndidaa
open Go.RowKit
set_option linter.unusedVariables false
set_option linter.unusedSimpArgs false
set_option maxRecDepth 100000

/-- The error's number of packing. -/
def packE (l : List Nat) (w : Int) : Nat := if szI (l.length : Int) w < 0 then 1 else if w < (wd l : Int) then 5 else 0
/-- The bytes of packing. -/
def packS (l : List Nat) (w : Int) : List Nat := if packE l w = 0 then packB w.toNat l else []
theorem packE_0 {l : List Nat} {w : Int} (h : packE l w = 0) : l.length ≤ 65536 ∧ 0 ≤ w ∧ w ≤ 64 ∧ wd l ≤ w.toNat ∧ szI (l.length : Int) w = (sz l.length w.toNat : Int) := by
  unfold packE szI at h
  unfold szI
  by_cases h1 : 0 ≤ (l.length : Int) ∧ (l.length : Int) ≤ 65536 ∧ 0 ≤ w ∧ w ≤ 64
  · rw [if_pos h1] at h ⊢
    rw [if_neg (by omega)] at h
    by_cases h2 : w < (wd l : Int)
    · rw [if_pos h2] at h; omega
    · exact ⟨by omega, by omega, by omega, by omega, by simp⟩
  · rw [if_neg h1, if_pos (by omega)] at h; omega

set_option maxHeartbeats 1000000 in
theorem pack_any (A : Option Addr) (n c : Nat) (l : List Nat) (wi : Int) (w : World) (hr : Reads w w.heap.size 1 A n (us l)) (hl : ∀ a ∈ l, a < 18446744073709551616) (hn : n ≤ 140737488355328) (hw : -9223372036854775808 ≤ wi ∧ wi ≤ 9223372036854775807) :
    Calls Try.prog 43 #[.slice A n c, .int .i64 wi] w (NewE w (packS l wi) (packE l wi)) := by
  have e1 : l.length = n := by have := hr.1; rw [us_length] at this; omega
  by_cases h1 : 0 ≤ (n : Int) ∧ (n : Int) ≤ 65536 ∧ 0 ≤ wi ∧ wi ≤ 64
  · have hz : szI (n : Int) wi = (sz n wi.toNat : Int) := by unfold szI; rw [if_pos h1]; simp
    obtain ⟨_, hn6, h3, h4⟩ := h1
    obtain ⟨wN, rfl⟩ := Int.eq_ofNat_of_zero_le h3
    simp only [Int.toNat_natCast] at hz
    by_cases h2 : wN < wd l
    · have hE : packE l (wN : Int) = 5 := by unfold packE; rw [e1, hz, if_neg (by omega), if_pos (by omega)]
      have hS : packS l (wN : Int) = [] := by unfold packS; rw [if_neg (by omega)]
      have H := Lib.hid (And.intro hE hS); clear hE hS
      have E1 := Lib.hid e1; clear e1
      have HZ := Lib.hid hz; clear hz
      have h2' : decide ((wN : Int) < (wd l : Int)) = true := by simp; omega
      go_enter Try.func43, Try.ntmps43
      go_wp2_with (first
        | (go_at_call 58; refine (size_any (n : Int) (wN : Int) _ (by omega) (by omega)).mono ?_; rintro e w' ⟨rfl, rfl⟩; rw [HZ.out])
        | (go_at_call 42; refine (width_any A n c l _ hr hl hn).mono ?_; rintro e w' ⟨rfl, rfl⟩))
      go_ret2
      obtain ⟨h5, h6⟩ := H.out
      rw [h5, h6]
      exact ⟨.slice none 0 0, rfl, own_nil _ _ _ _, Below.refl _ _⟩
    · have hE : packE l (wN : Int) = 0 := by unfold packE; rw [e1, hz, if_neg (by omega), if_neg (by omega)]
      have hS : packS l (wN : Int) = packB wN l := by unfold packS; rw [if_pos hE]; simp
      have hlen : (packB wN l).length = sz n wN := by rw [packB_length, e1]
      have H := Lib.hid (And.intro hE (And.intro hS hlen)); clear hE hS hlen
      have hlw : ∀ a ∈ l, a < 2 ^ wN := (wd_le l wN).1 (by omega)
      have E1 := Lib.hid e1; clear e1
      have HZ := Lib.hid hz; clear hz
      have h2' : decide ((wN : Int) < (wd l : Int)) = false := by simp; omega
      go_enter Try.func43, Try.ntmps43
      go_wp2_with (first
        | (go_at_call 58; refine (size_any (n : Int) (wN : Int) _ (by omega) (by omega)).mono ?_; rintro e w' ⟨rfl, rfl⟩; rw [HZ.out])
        | (go_at_call 42; refine (width_any A n c l _ hr hl hn).mono ?_; rintro e w' ⟨rfl, rfl⟩)
        | (go_at_call 59; refine (packed_any A n c l wN _ hr hlw (by omega) (by omega)).mono ?_; rintro e w' ⟨v, rfl, hown, hb⟩))
      go_ret2
      obtain ⟨h5, h6, h7⟩ := H.out
      rw [h5, h6]
      exact ⟨v, rfl, by rw [h7]; exact hown, hb⟩
  · have hz : szI (n : Int) wi = -1 := by unfold szI; rw [if_neg h1]
    have hE : packE l wi = 1 := by unfold packE; rw [e1, hz, if_pos (by omega)]
    have hS : packS l wi = [] := by unfold packS; rw [if_neg (by omega)]
    have H := Lib.hid (And.intro hE hS); clear hE hS
    have E1 := Lib.hid e1; clear e1
    have HZ := Lib.hid hz; clear hz
    clear h1
    go_enter Try.func43, Try.ntmps43
    go_wp2_with (go_at_call 58; refine (size_any (n : Int) wi _ (by omega) hw).mono ?_; rintro e w' ⟨rfl, rfl⟩; rw [HZ.out])
    go_ret2
    obtain ⟨h5, h6⟩ := H.out
    rw [h5, h6]
    exact ⟨.slice none 0 0, rfl, own_nil _ _ _ _, Below.refl _ _⟩
end Go.Proofs.Ytppeagjklndidaa
