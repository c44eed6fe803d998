/- Texts joined: Pack PackOk Num Opened ZigF. -/
import Derived.Test.YtpjmenaejfdiaaaDoorPacked
import Derived.Test.YtpjmenaejfdiaaaDoorJ3
import Derived.Test.YtpjmenaejfdiaaaDoorJ2
import Derived.Test.YtpjmenaejfdiaaaDoorJ8
/- Contract of package bits' Pack: the bytes, or the error's number. No condition beside the list's length. -/
namespace Go.Proofs.YtpjmenaejfdiaaaDoor
open Go.RowKit
set_option linter.unusedVariables false
set_option linter.unusedSimpArgs false
set_option maxRecDepth 100000

/-- The error's number of packing. -/
def packE (l : List Nat) (w : Int) : Nat := if szI (l.length : Int) w < 0 then 1 else if w < (wd l : Int) then 5 else 0
/-- The bytes of packing. -/
def packS (l : List Nat) (w : Int) : List Nat := if packE l w = 0 then packB w.toNat l else []
theorem packE_0 {l : List Nat} {w : Int} (h : packE l w = 0) : l.length ≤ 65536 ∧ 0 ≤ w ∧ w ≤ 64 ∧ wd l ≤ w.toNat ∧ szI (l.length : Int) w = (sz l.length w.toNat : Int) := by
  unfold packE szI at h
  unfold szI
  by_cases h1 : 0 ≤ (l.length : Int) ∧ (l.length : Int) ≤ 65536 ∧ 0 ≤ w ∧ w ≤ 64
  · rw [if_pos h1] at h ⊢
    rw [if_neg (by omega)] at h
    by_cases h2 : w < (wd l : Int)
    · rw [if_pos h2] at h; omega
    · exact ⟨by omega, by omega, by omega, by omega, by simp⟩
  · rw [if_neg h1, if_pos (by omega)] at h; omega

set_option maxHeartbeats 1000000 in
theorem pack_any (A : Option Addr) (n c : Nat) (l : List Nat) (wi : Int) (w : World) (hr : Reads w w.heap.size 1 A n (us l)) (hl : ∀ a ∈ l, a < 18446744073709551616) (hn : n ≤ 140737488355328) (hw : -9223372036854775808 ≤ wi ∧ wi ≤ 9223372036854775807) :
    Calls Tryd.prog 24 #[.slice A n c, .int .i64 wi] w (NewE w (packS l wi) (packE l wi)) := by
  have e1 : l.length = n := by have := hr.1; rw [us_length] at this; omega
  by_cases h1 : 0 ≤ (n : Int) ∧ (n : Int) ≤ 65536 ∧ 0 ≤ wi ∧ wi ≤ 64
  · have hz : szI (n : Int) wi = (sz n wi.toNat : Int) := by unfold szI; rw [if_pos h1]; simp
    obtain ⟨_, hn6, h3, h4⟩ := h1
    obtain ⟨wN, rfl⟩ := Int.eq_ofNat_of_zero_le h3
    simp only [Int.toNat_natCast] at hz
    by_cases h2 : wN < wd l
    · have hE : packE l (wN : Int) = 5 := by unfold packE; rw [e1, hz, if_neg (by omega), if_pos (by omega)]
      have hS : packS l (wN : Int) = [] := by unfold packS; rw [if_neg (by omega)]
      have H := Lib.hid (And.intro hE hS); clear hE hS
      have E1 := Lib.hid e1; clear e1
      have HZ := Lib.hid hz; clear hz
      have h2' : decide ((wN : Int) < (wd l : Int)) = true := by simp; omega
      go_enter Tryd.func24, Tryd.ntmps24
      go_wp2_with (first
        | (go_at_call 45; refine (size_any (n : Int) (wN : Int) _ (by omega) (by omega)).mono ?_; rintro e w' ⟨rfl, rfl⟩; rw [HZ.out])
        | (go_at_call 23; refine (width_any A n c l _ hr hl hn).mono ?_; rintro e w' ⟨rfl, rfl⟩))
      go_ret2
      obtain ⟨h5, h6⟩ := H.out
      rw [h5, h6]
      exact ⟨.slice none 0 0, rfl, own_nil _ _ _ _, Below.refl _ _⟩
    · have hE : packE l (wN : Int) = 0 := by unfold packE; rw [e1, hz, if_neg (by omega), if_neg (by omega)]
      have hS : packS l (wN : Int) = packB wN l := by unfold packS; rw [if_pos hE]; simp
      have hlen : (packB wN l).length = sz n wN := by rw [packB_length, e1]
      have H := Lib.hid (And.intro hE (And.intro hS hlen)); clear hE hS hlen
      have hlw : ∀ a ∈ l, a < 2 ^ wN := (wd_le l wN).1 (by omega)
      have E1 := Lib.hid e1; clear e1
      have HZ := Lib.hid hz; clear hz
      have h2' : decide ((wN : Int) < (wd l : Int)) = false := by simp; omega
      go_enter Tryd.func24, Tryd.ntmps24
      go_wp2_with (first
        | (go_at_call 45; refine (size_any (n : Int) (wN : Int) _ (by omega) (by omega)).mono ?_; rintro e w' ⟨rfl, rfl⟩; rw [HZ.out])
        | (go_at_call 23; refine (width_any A n c l _ hr hl hn).mono ?_; rintro e w' ⟨rfl, rfl⟩)
        | (go_at_call 46; refine (packed_any A n c l wN _ hr hlw (by omega) (by omega)).mono ?_; rintro e w' ⟨v, rfl, hown, hb⟩))
      go_ret2
      obtain ⟨h5, h6, h7⟩ := H.out
      rw [h5, h6]
      exact ⟨v, rfl, by rw [h7]; exact hown, hb⟩
  · have hz : szI (n : Int) wi = -1 := by unfold szI; rw [if_neg h1]
    have hE : packE l wi = 1 := by unfold packE; rw [e1, hz, if_pos (by omega)]
    have hS : packS l wi = [] := by unfold packS; rw [if_neg (by omega)]
    have H := Lib.hid (And.intro hE hS); clear hE hS
    have E1 := Lib.hid e1; clear e1
    have HZ := Lib.hid hz; clear hz
    clear h1
    go_enter Tryd.func24, Tryd.ntmps24
    go_wp2_with (go_at_call 45; refine (size_any (n : Int) wi _ (by omega) hw).mono ?_; rintro e w' ⟨rfl, rfl⟩; rw [HZ.out])
    go_ret2
    obtain ⟨h5, h6⟩ := H.out
    rw [h5, h6]
    exact ⟨.slice none 0 0, rfl, own_nil _ _ _ _, Below.refl _ _⟩
end Go.Proofs.YtpjmenaejfdiaaaDoor

/- Contract of package bits' Pack where it goes well. -/
namespace Go.Proofs.YtpjmenaejfdiaaaDoor
open Go.RowKit
set_option linter.unusedVariables false
set_option linter.unusedSimpArgs false
set_option maxRecDepth 100000

theorem packE_ok (l : List Nat) (w : Nat) (hl : l.length ≤ 65536) (hw : w ≤ 64) (h : wd l ≤ w) : packE l (w : Int) = 0 ∧ packS l (w : Int) = packB w l := by
  have hz : szI (l.length : Int) (w : Int) = (sz l.length w : Int) := by unfold szI; rw [if_pos (by omega)]; simp
  have hE : packE l (w : Int) = 0 := by unfold packE; rw [hz, if_neg (by omega), if_neg (by omega)]
  exact ⟨hE, by unfold packS; rw [if_pos hE]; simp⟩
/-- Pack, where it goes well. -/
theorem pack_ok (A : Option Addr) (n c : Nat) (l : List Nat) (kI : Int) (k : Nat) (hkI : kI = (k : Int)) (w : World) (hr : Reads w w.heap.size 1 A n (us l)) (hl : ∀ a ∈ l, a < 18446744073709551616) (hn : n ≤ 65536) (hk : k ≤ 64) (hd : wd l ≤ k) :
    Calls Tryd.prog 24 #[.slice A n c, .int .i64 kI] w (NewE w (packB k l) 0) := by
  subst hkI
  have e1 : l.length = n := by have := hr.1; rw [us_length] at this; omega
  have h := pack_any A n c l (k : Int) w hr hl (by omega) (by omega)
  obtain ⟨h1, h2⟩ := packE_ok l k (by omega) hk hd
  rwa [h1, h2] at h
end Go.Proofs.YtpjmenaejfdiaaaDoor

/- Contracts of package num's functions: what they answer of which numbers and bytes, in new memory; nothing that was there changes. -/
namespace Go.Proofs.YtpjmenaejfdiaaaDoor
open Go.RowKit
set_option linter.unusedVariables false
set_option linter.unusedSimpArgs false
set_option maxRecDepth 100000

set_option maxHeartbeats 400000 in
theorem putVar_any (A : Option Addr) (n c v : Nat) (xs : List Value) (w : World) (hv : v < 18446744073709551616) (hr : Reads w w.heap.size 1 A n xs) (h1 : ∀ u ∈ xs, u.oneCell' = true) (hb : n ≤ 140737488355300) :
    Calls Tryd.prog 26 #[.slice A n c, .int .u64 (v : Int)] w (New w (xs ++ bs (vb v)) (n + (vb v).length)) := by
  obtain ⟨i0, hi0, hz0, hz1, hz2⟩ := info_parts info_u8
  go_enter Tryd.func26, Tryd.ntmps26
  go_wp2_with (go_at_call 48; refine (copied_any A n c 10 xs w hr h1 (by omega)).mono ?_; rintro e w1 ⟨u0, rfl, hown0, hb0⟩)
  go_loopw [5, 1] (fun out v1 wr => ∃ (pre : List Nat) (v' : Nat), pre ++ vb v' = vb v ∧ v' < 18446744073709551616 ∧ v1 = .int .u64 (v' : Int) ∧ wr.ownsRow w.heap.size 5 1 out (n + pre.length) (xs ++ bs pre) ∧ Below w.heap.size w wr)
    (fun _ v1 _ => (intOf v1).toNat)
  case atStart => exact ⟨[], v, rfl, hv, rfl, by simpa [bs] using hown0, hb0⟩
  case round =>
    obtain ⟨pre, v', hpre, hv', rfl, hown, hbl⟩ := hrel
    have hpl := congrArg List.length hpre
    have hl := vb_length v
    simp only [List.length_append] at hpl
    have hplen : pre.length ≤ 10 := by omega
    have Hpre := Lib.hid hpre
    clear hpre hpl
    have hsz := hbl.size
    by_cases hlt : 127 < v'
    · go_wp2_with (at_builtin
                   refine wpList_append_any _ rfl (.tmp 12) (.tmp 16) _ rfl w.heap.size 5 i0 _ 1 1 Tryd.underlying22 hi0 hz0 hz1 hz2 rfl (by omega) u5 (n + pre.length) (xs ++ bs pre) rfl
                     (hown.alloc _) (wr.heap.size + 1) (some ⟨wr.heap.size, 0, none⟩) 1 1 [.int .u8 (bits .or .u8 ((v' : Int) % 256) 128)] rfl (Reads.new wr _ _) (one_int _ _) (by unfold maxLen; omega) (by omega) (by simp; omega) ?_
                   intro v2 w2 hown2 hg2 hat2)
      have hbit : bits .or .u8 ((v' : Int) % 256) 128 = ((128 + v' % 128 : Nat) : Int) := by
        rw [show ((v' : Int) % 256) = ((v' % 256 : Nat) : Int) from rfl, show (128 : Int) = ((128 : Nat) : Int) from rfl, u8_or_nat _ _ (by omega) (by omega), bit7 _ (by omega)]
        congr 2; omega
      rw [bs_snoc xs pre _ _ hbit] at hown2
      have hvb := vb_big v' (by omega) hv'
      refine ⟨⟨pre ++ [128 + v' % 128], v' / 128, ?_, by omega, rfl, by simpa [Nat.add_assoc] using hown2, below_app hbl hown hsz hg2⟩, ?_⟩
      · rw [List.append_assoc, ← Hpre.out, hvb]; rfl
      · simp [intOf]; omega
    · go_wp2_with (at_builtin
                   refine wpList_append_any _ rfl (.tmp 18) (.tmp 21) _ rfl w.heap.size 5 i0 _ 1 1 Tryd.underlying22 hi0 hz0 hz1 hz2 rfl (by omega) u5 (n + pre.length) (xs ++ bs pre) rfl
                     (hown.alloc _) (wr.heap.size + 1) (some ⟨wr.heap.size, 0, none⟩) 1 1 [.int .u8 (v' : Int)] rfl (Reads.new wr _ _) (one_int _ _) (by unfold maxLen; omega) (by omega) (by simp; omega) ?_
                   intro v2 w2 hown2 hg2 hat2)
      go_ret
      have hvb := vb_small v' (by omega)
      have hpre := Hpre.out
      rw [hvb] at hpre
      rw [bs_snoc xs pre v' _ rfl, hpre] at hown2
      refine ⟨v2, rfl, ?_, below_app hbl hown hsz hg2⟩
      rw [← hpre] at hown2 ⊢
      simpa [Nat.add_assoc] using hown2
end Go.Proofs.YtpjmenaejfdiaaaDoor

/- What a function answers that hands out new bytes, opened; what reads goes on reading. -/
namespace Go.Proofs.YtpjmenaejfdiaaaDoor
open Go.RowKit
set_option linter.unusedVariables false
set_option linter.unusedSimpArgs false
set_option maxRecDepth 100000

theorem New.opened {w w' : World} {xs : List Value} {n : Nat} {e : Ending} (h : New w xs n e w') : ∃ A c, e = .returned (.slice A n c) ∧ n ≤ c ∧ Reads w' w'.heap.size 1 A n xs ∧ Below w.heap.size w w' := by
  obtain ⟨v, rfl, hown, hb⟩ := h
  obtain ⟨A, c, rfl, hc, _, hr⟩ := own_slice hown
  exact ⟨A, c, rfl, hc, hr, hb⟩
theorem Reads.next {w w' : World} {size n : Nat} {A : Option Addr} {xs : List Value} (h : Reads w w.heap.size size A n xs) (hb : Below w.heap.size w w') : Reads w' w'.heap.size size A n xs :=
  (h.below hb).more hb.size
end Go.Proofs.YtpjmenaejfdiaaaDoor

/- Contract of package num's Zig. -/
namespace Go.Proofs.YtpjmenaejfdiaaaDoor
open Go.RowKit
set_option linter.unusedVariables false
set_option linter.unusedSimpArgs false
set_option maxRecDepth 100000

theorem zig_any (n : Int) (w : World) (h1 : -9223372036854775808 ≤ n) (h2 : n ≤ 9223372036854775807) : Calls Tryd.prog 27 #[.int .i64 n] w fun e w' => e = .returned (.int .u64 (zigI n)) ∧ w = w' := by
  by_cases h : 0 ≤ n
  · have HZ := Lib.hid (zig_low n h h2)
    go_enter Tryd.func27, Tryd.ntmps27
    go_wp2_with fail
    go_ret
    exact ⟨ret_of (congrArg (Value.int .u64) HZ.out), rfl⟩
  · have HZ := Lib.hid (zig_high n h h1)
    go_enter Tryd.func27, Tryd.ntmps27
    go_wp2_with fail
    go_ret
    exact ⟨ret_of (congrArg (Value.int .u64) HZ.out), rfl⟩
end Go.Proofs.YtpjmenaejfdiaaaDoor
