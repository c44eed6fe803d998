/- Texts joined: Pack PackOk Two Fill. -/
import Derived.Test.YtppeagjklndidaaGreatDoorPacked
import Derived.Test.YtppeagjklndidaaGreatDoorJ17
import Derived.Test.YtppeagjklndidaaGreatDoorWords
/- Contract of package bits' Pack: the bytes, or the error's number. No condition beside the list's length. -/
namespace Go.Proofs.YtppeagjklndidaaGreatDoor
open Go.RowKit
set_option linter.unusedVariables false
set_option linter.unusedSimpArgs false
set_option maxRecDepth 100000

/-- The error's number of packing. -/
def packE (l : List Nat) (w : Int) : Nat := if szI (l.length : Int) w < 0 then 1 else if w < (wd l : Int) then 5 else 0
/-- The bytes of packing. -/
def packS (l : List Nat) (w : Int) : List Nat := if packE l w = 0 then packB w.toNat l else []
theorem packE_0 {l : List Nat} {w : Int} (h : packE l w = 0) : l.length ≤ 65536 ∧ 0 ≤ w ∧ w ≤ 64 ∧ wd l ≤ w.toNat ∧ szI (l.length : Int) w = (sz l.length w.toNat : Int) := by
  unfold packE szI at h
  unfold szI
  by_cases h1 : 0 ≤ (l.length : Int) ∧ (l.length : Int) ≤ 65536 ∧ 0 ≤ w ∧ w ≤ 64
  · rw [if_pos h1] at h ⊢
    rw [if_neg (by omega)] at h
    by_cases h2 : w < (wd l : Int)
    · rw [if_pos h2] at h; omega
    · exact ⟨by omega, by omega, by omega, by omega, by simp⟩
  · rw [if_neg h1, if_pos (by omega)] at h; omega

set_option maxHeartbeats 1000000 in
theorem pack_any (A : Option Addr) (n c : Nat) (l : List Nat) (wi : Int) (w : World) (hr : Reads w w.heap.size 1 A n (us l)) (hl : ∀ a ∈ l, a < 18446744073709551616) (hn : n ≤ 140737488355328) (hw : -9223372036854775808 ≤ wi ∧ wi ≤ 9223372036854775807) :
    Calls Tryz.prog 55 #[.slice A n c, .int .i64 wi] w (NewE w (packS l wi) (packE l wi)) := by
  have e1 : l.length = n := by have := hr.1; rw [us_length] at this; omega
  by_cases h1 : 0 ≤ (n : Int) ∧ (n : Int) ≤ 65536 ∧ 0 ≤ wi ∧ wi ≤ 64
  · have hz : szI (n : Int) wi = (sz n wi.toNat : Int) := by unfold szI; rw [if_pos h1]; simp
    obtain ⟨_, hn6, h3, h4⟩ := h1
    obtain ⟨wN, rfl⟩ := Int.eq_ofNat_of_zero_le h3
    simp only [Int.toNat_natCast] at hz
    by_cases h2 : wN < wd l
    · have hE : packE l (wN : Int) = 5 := by unfold packE; rw [e1, hz, if_neg (by omega), if_pos (by omega)]
      have hS : packS l (wN : Int) = [] := by unfold packS; rw [if_neg (by omega)]
      have H := Lib.hid (And.intro hE hS); clear hE hS
      have E1 := Lib.hid e1; clear e1
      have HZ := Lib.hid hz; clear hz
      have h2' : decide ((wN : Int) < (wd l : Int)) = true := by simp; omega
      go_enter Tryz.func55, Tryz.ntmps55
      go_wp2_with (first
        | (go_at_call 80; refine (size_any (n : Int) (wN : Int) _ (by omega) (by omega)).mono ?_; rintro e w' ⟨rfl, rfl⟩; rw [HZ.out])
        | (go_at_call 54; refine (width_any A n c l _ hr hl hn).mono ?_; rintro e w' ⟨rfl, rfl⟩))
      go_ret2
      obtain ⟨h5, h6⟩ := H.out
      rw [h5, h6]
      exact ⟨.slice none 0 0, rfl, own_nil _ _ _ _, Below.refl _ _⟩
    · have hE : packE l (wN : Int) = 0 := by unfold packE; rw [e1, hz, if_neg (by omega), if_neg (by omega)]
      have hS : packS l (wN : Int) = packB wN l := by unfold packS; rw [if_pos hE]; simp
      have hlen : (packB wN l).length = sz n wN := by rw [packB_length, e1]
      have H := Lib.hid (And.intro hE (And.intro hS hlen)); clear hE hS hlen
      have hlw : ∀ a ∈ l, a < 2 ^ wN := (wd_le l wN).1 (by omega)
      have E1 := Lib.hid e1; clear e1
      have HZ := Lib.hid hz; clear hz
      have h2' : decide ((wN : Int) < (wd l : Int)) = false := by simp; omega
      go_enter Tryz.func55, Tryz.ntmps55
      go_wp2_with (first
        | (go_at_call 80; refine (size_any (n : Int) (wN : Int) _ (by omega) (by omega)).mono ?_; rintro e w' ⟨rfl, rfl⟩; rw [HZ.out])
        | (go_at_call 54; refine (width_any A n c l _ hr hl hn).mono ?_; rintro e w' ⟨rfl, rfl⟩)
        | (go_at_call 81; refine (packed_any A n c l wN _ hr hlw (by omega) (by omega)).mono ?_; rintro e w' ⟨v, rfl, hown, hb⟩))
      go_ret2
      obtain ⟨h5, h6, h7⟩ := H.out
      rw [h5, h6]
      exact ⟨v, rfl, by rw [h7]; exact hown, hb⟩
  · have hz : szI (n : Int) wi = -1 := by unfold szI; rw [if_neg h1]
    have hE : packE l wi = 1 := by unfold packE; rw [e1, hz, if_pos (by omega)]
    have hS : packS l wi = [] := by unfold packS; rw [if_neg (by omega)]
    have H := Lib.hid (And.intro hE hS); clear hE hS
    have E1 := Lib.hid e1; clear e1
    have HZ := Lib.hid hz; clear hz
    clear h1
    go_enter Tryz.func55, Tryz.ntmps55
    go_wp2_with (go_at_call 80; refine (size_any (n : Int) wi _ (by omega) hw).mono ?_; rintro e w' ⟨rfl, rfl⟩; rw [HZ.out])
    go_ret2
    obtain ⟨h5, h6⟩ := H.out
    rw [h5, h6]
    exact ⟨.slice none 0 0, rfl, own_nil _ _ _ _, Below.refl _ _⟩
end Go.Proofs.YtppeagjklndidaaGreatDoor

/- Contract of package bits' Pack where it goes well. -/
namespace Go.Proofs.YtppeagjklndidaaGreatDoor
open Go.RowKit
set_option linter.unusedVariables false
set_option linter.unusedSimpArgs false
set_option maxRecDepth 100000

theorem packE_ok (l : List Nat) (w : Nat) (hl : l.length ≤ 65536) (hw : w ≤ 64) (h : wd l ≤ w) : packE l (w : Int) = 0 ∧ packS l (w : Int) = packB w l := by
  have hz : szI (l.length : Int) (w : Int) = (sz l.length w : Int) := by unfold szI; rw [if_pos (by omega)]; simp
  have hE : packE l (w : Int) = 0 := by unfold packE; rw [hz, if_neg (by omega), if_neg (by omega)]
  exact ⟨hE, by unfold packS; rw [if_pos hE]; simp⟩
/-- Pack, where it goes well. -/
theorem pack_ok (A : Option Addr) (n c : Nat) (l : List Nat) (kI : Int) (k : Nat) (hkI : kI = (k : Int)) (w : World) (hr : Reads w w.heap.size 1 A n (us l)) (hl : ∀ a ∈ l, a < 18446744073709551616) (hn : n ≤ 65536) (hk : k ≤ 64) (hd : wd l ≤ k) :
    Calls Tryz.prog 55 #[.slice A n c, .int .i64 kI] w (NewE w (packB k l) 0) := by
  subst hkI
  have e1 : l.length = n := by have := hr.1; rw [us_length] at this; omega
  have h := pack_any A n c l (k : Int) w hr hl (by omega) (by omega)
  obtain ⟨h1, h2⟩ := packE_ok l k (by omega) hk hd
  rwa [h1, h2] at h
end Go.Proofs.YtppeagjklndidaaGreatDoor

/- A list of two byte texts, laid in new memory; a width and places packed in it. No condition. -/
namespace Go.Proofs.YtppeagjklndidaaGreatDoor
open Go.RowKit
set_option linter.unusedVariables false
set_option linter.unusedSimpArgs false
set_option maxRecDepth 100000

theorem two_parts (w : World) (t : TypeId) (v1 v2 : Value) (l1 l2 : List Nat) (h1 : IsB w v1 l1) (h2 : IsB w v2 l2) :
    LL (w.alloc (.cells #[v1, v2] t)) (some ⟨w.heap.size, 0, none⟩) [l1, l2] := by
  have hb : Below w.heap.size w (w.alloc (.cells #[v1, v2] t)) := (Below.refl _ _).alloc (Nat.le_refl _) _
  exact ⟨[v1, v2], reads_blk (Blk.new w t #[v1, v2]) _ 2 _ (by simp) rfl rfl, h1.next hb, h2.next hb, trivial⟩
/-- What stands behind a list: the width of the places, and these, packed in it. -/
def pcB (P : List Nat) : List Nat := wd P :: packB (wd P) P
theorem pcB_flat (P : List Nat) : [[wd P], packB (wd P) P].flatten = pcB P := by simp [pcB]
end Go.Proofs.YtppeagjklndidaaGreatDoor

/- A row that is filled in order: so many places are filled, the others are zero. No program. -/
namespace Go.Proofs.YtppeagjklndidaaGreatDoor
open Go.RowKit
set_option linter.unusedVariables false
set_option linter.unusedSimpArgs false
set_option maxRecDepth 100000

/-- A row of which 'k' are filled. -/
def fillW (xs : List Value) (z : Value) (k : Nat) : Array Value := (xs.take k ++ List.replicate (xs.length - k) z).toArray
theorem fillW_zero (xs : List Value) (z : Value) (n : Nat) (h : xs.length = n) : fillW xs z 0 = madeCells #[z] n := by
  apply Array.ext'
  rw [toList_madeCells_one]
  simp [fillW, h]
theorem fillW_all (xs : List Value) (z : Value) (n : Nat) (h : xs.length = n) : fillW xs z n = xs.toArray := by
  unfold fillW
  rw [List.take_of_length_le (by omega), h, Nat.sub_self]
  simp
theorem fillW_old (xs : List Value) (z : Value) (k : Nat) (h : k < xs.length) : (fillW xs z k)[k]? = some z := by
  unfold fillW
  rw [List.getElem?_toArray, List.getElem?_append_right (by rw [List.length_take]; omega), List.getElem?_replicate, if_pos (by rw [List.length_take]; omega)]
theorem fillW_next (xs : List Value) (z : Value) (k : Nat) (v : Value) (h : xs[k]? = some v) : (fillW xs z k).setIfInBounds k v = fillW xs z (k + 1) := by
  have hk : k < xs.length := (List.getElem?_eq_some_iff.1 h).1
  unfold fillW
  rw [List.setIfInBounds_toArray]
  congr 1
  apply List.ext_getElem?
  intro i
  rw [List.getElem?_set]
  by_cases hi : k = i
  · subst hi
    rw [if_pos rfl, if_pos (by simp; omega), List.getElem?_append_left (by simp; omega), List.getElem?_take, if_pos (by omega), h]
  · rw [if_neg hi]
    by_cases h2 : i < k
    · rw [List.getElem?_append_left (by simp; omega), List.getElem?_append_left (by simp; omega), List.getElem?_take, List.getElem?_take, if_pos h2, if_pos (by omega)]
    · rw [List.getElem?_append_right (by simp; omega), List.getElem?_append_right (by simp; omega), List.getElem?_replicate, List.getElem?_replicate]
      simp only [List.length_take]
      by_cases h3 : i < xs.length
      · rw [if_pos (by omega), if_pos (by omega)]
      · rw [if_neg (by omega), if_neg (by omega)]
/-- A block that is just the row is the call's own. -/
theorem own_whole {w : World} {B h n : Nat} {t : TypeId} {xs : List Value} (hb : Blk w h t xs.toArray) (hB : B ≤ h) (hn : xs.length = n) (hm : n ≤ maxLen) :
    w.ownsRow B t 1 (.slice (some ⟨h, 0, none⟩) n n) n xs :=
  ⟨by omega, .inr ⟨h, n, xs.toArray, rfl, hB, hb, Nat.le_refl _, hm, by simp; omega, by simp; rw [List.take_of_length_le (by omega)]⟩⟩
end Go.Proofs.YtppeagjklndidaaGreatDoor
