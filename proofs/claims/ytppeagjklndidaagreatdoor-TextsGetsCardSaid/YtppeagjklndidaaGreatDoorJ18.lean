/- Texts joined: Pack PackOk Two Fill PcPutS. -/
import Derived.Test.YtppeagjklndidaaGreatDoorPacked
import Derived.Test.YtppeagjklndidaaGreatDoorJ15
import Derived.Test.YtppeagjklndidaaGreatDoorWords
import Derived.Test.YtppeagjklndidaaGreatDoorJ12
/- Contract of package bits' Pack: the bytes, or the error's number. No condition beside the list's length. -/
namespace Go.Proofs.YtppeagjklndidaaGreatDoor
open Go.RowKit
set_option linter.unusedVariables false
set_option linter.unusedSimpArgs false
set_option maxRecDepth 100000

/-- The error's number of packing. -/
def packE (l : List Nat) (w : Int) : Nat := if szI (l.length : Int) w < 0 then 1 else if w < (wd l : Int) then 5 else 0
/-- The bytes of packing. -/
def packS (l : List Nat) (w : Int) : List Nat := if packE l w = 0 then packB w.toNat l else []
theorem packE_0 {l : List Nat} {w : Int} (h : packE l w = 0) : l.length ≤ 65536 ∧ 0 ≤ w ∧ w ≤ 64 ∧ wd l ≤ w.toNat ∧ szI (l.length : Int) w = (sz l.length w.toNat : Int) := by
  unfold packE szI at h
  unfold szI
  by_cases h1 : 0 ≤ (l.length : Int) ∧ (l.length : Int) ≤ 65536 ∧ 0 ≤ w ∧ w ≤ 64
  · rw [if_pos h1] at h ⊢
    rw [if_neg (by omega)] at h
    by_cases h2 : w < (wd l : Int)
    · rw [if_pos h2] at h; omega
    · exact ⟨by omega, by omega, by omega, by omega, by simp⟩
  · rw [if_neg h1, if_pos (by omega)] at h; omega

set_option maxHeartbeats 1000000 in
theorem pack_any (A : Option Addr) (n c : Nat) (l : List Nat) (wi : Int) (w : World) (hr : Reads w w.heap.size 1 A n (us l)) (hl : ∀ a ∈ l, a < 18446744073709551616) (hn : n ≤ 140737488355328) (hw : -9223372036854775808 ≤ wi ∧ wi ≤ 9223372036854775807) :
    Calls Tryz.prog 55 #[.slice A n c, .int .i64 wi] w (NewE w (packS l wi) (packE l wi)) := by
  have e1 : l.length = n := by have := hr.1; rw [us_length] at this; omega
  by_cases h1 : 0 ≤ (n : Int) ∧ (n : Int) ≤ 65536 ∧ 0 ≤ wi ∧ wi ≤ 64
  · have hz : szI (n : Int) wi = (sz n wi.toNat : Int) := by unfold szI; rw [if_pos h1]; simp
    obtain ⟨_, hn6, h3, h4⟩ := h1
    obtain ⟨wN, rfl⟩ := Int.eq_ofNat_of_zero_le h3
    simp only [Int.toNat_natCast] at hz
    by_cases h2 : wN < wd l
    · have hE : packE l (wN : Int) = 5 := by unfold packE; rw [e1, hz, if_neg (by omega), if_pos (by omega)]
      have hS : packS l (wN : Int) = [] := by unfold packS; rw [if_neg (by omega)]
      have H := Lib.hid (And.intro hE hS); clear hE hS
      have E1 := Lib.hid e1; clear e1
      have HZ := Lib.hid hz; clear hz
      have h2' : decide ((wN : Int) < (wd l : Int)) = true := by simp; omega
      go_enter Tryz.func55, Tryz.ntmps55
      go_wp2_with (first
        | (go_at_call 80; refine (size_any (n : Int) (wN : Int) _ (by omega) (by omega)).mono ?_; rintro e w' ⟨rfl, rfl⟩; rw [HZ.out])
        | (go_at_call 54; refine (width_any A n c l _ hr hl hn).mono ?_; rintro e w' ⟨rfl, rfl⟩))
      go_ret2
      obtain ⟨h5, h6⟩ := H.out
      rw [h5, h6]
      exact ⟨.slice none 0 0, rfl, own_nil _ _ _ _, Below.refl _ _⟩
    · have hE : packE l (wN : Int) = 0 := by unfold packE; rw [e1, hz, if_neg (by omega), if_neg (by omega)]
      have hS : packS l (wN : Int) = packB wN l := by unfold packS; rw [if_pos hE]; simp
      have hlen : (packB wN l).length = sz n wN := by rw [packB_length, e1]
      have H := Lib.hid (And.intro hE (And.intro hS hlen)); clear hE hS hlen
      have hlw : ∀ a ∈ l, a < 2 ^ wN := (wd_le l wN).1 (by omega)
      have E1 := Lib.hid e1; clear e1
      have HZ := Lib.hid hz; clear hz
      have h2' : decide ((wN : Int) < (wd l : Int)) = false := by simp; omega
      go_enter Tryz.func55, Tryz.ntmps55
      go_wp2_with (first
        | (go_at_call 80; refine (size_any (n : Int) (wN : Int) _ (by omega) (by omega)).mono ?_; rintro e w' ⟨rfl, rfl⟩; rw [HZ.out])
        | (go_at_call 54; refine (width_any A n c l _ hr hl hn).mono ?_; rintro e w' ⟨rfl, rfl⟩)
        | (go_at_call 81; refine (packed_any A n c l wN _ hr hlw (by omega) (by omega)).mono ?_; rintro e w' ⟨v, rfl, hown, hb⟩))
      go_ret2
      obtain ⟨h5, h6, h7⟩ := H.out
      rw [h5, h6]
      exact ⟨v, rfl, by rw [h7]; exact hown, hb⟩
  · have hz : szI (n : Int) wi = -1 := by unfold szI; rw [if_neg h1]
    have hE : packE l wi = 1 := by unfold packE; rw [e1, hz, if_pos (by omega)]
    have hS : packS l wi = [] := by unfold packS; rw [if_neg (by omega)]
    have H := Lib.hid (And.intro hE hS); clear hE hS
    have E1 := Lib.hid e1; clear e1
    have HZ := Lib.hid hz; clear hz
    clear h1
    go_enter Tryz.func55, Tryz.ntmps55
    go_wp2_with (go_at_call 80; refine (size_any (n : Int) wi _ (by omega) hw).mono ?_; rintro e w' ⟨rfl, rfl⟩; rw [HZ.out])
    go_ret2
    obtain ⟨h5, h6⟩ := H.out
    rw [h5, h6]
    exact ⟨.slice none 0 0, rfl, own_nil _ _ _ _, Below.refl _ _⟩
end Go.Proofs.YtppeagjklndidaaGreatDoor

/- Contract of package bits' Pack where it goes well. -/
namespace Go.Proofs.YtppeagjklndidaaGreatDoor
open Go.RowKit
set_option linter.unusedVariables false
set_option linter.unusedSimpArgs false
set_option maxRecDepth 100000

theorem packE_ok (l : List Nat) (w : Nat) (hl : l.length ≤ 65536) (hw : w ≤ 64) (h : wd l ≤ w) : packE l (w : Int) = 0 ∧ packS l (w : Int) = packB w l := by
  have hz : szI (l.length : Int) (w : Int) = (sz l.length w : Int) := by unfold szI; rw [if_pos (by omega)]; simp
  have hE : packE l (w : Int) = 0 := by unfold packE; rw [hz, if_neg (by omega), if_neg (by omega)]
  exact ⟨hE, by unfold packS; rw [if_pos hE]; simp⟩
/-- Pack, where it goes well. -/
theorem pack_ok (A : Option Addr) (n c : Nat) (l : List Nat) (kI : Int) (k : Nat) (hkI : kI = (k : Int)) (w : World) (hr : Reads w w.heap.size 1 A n (us l)) (hl : ∀ a ∈ l, a < 18446744073709551616) (hn : n ≤ 65536) (hk : k ≤ 64) (hd : wd l ≤ k) :
    Calls Tryz.prog 55 #[.slice A n c, .int .i64 kI] w (NewE w (packB k l) 0) := by
  subst hkI
  have e1 : l.length = n := by have := hr.1; rw [us_length] at this; omega
  have h := pack_any A n c l (k : Int) w hr hl (by omega) (by omega)
  obtain ⟨h1, h2⟩ := packE_ok l k (by omega) hk hd
  rwa [h1, h2] at h
end Go.Proofs.YtppeagjklndidaaGreatDoor

/- A list of two byte texts, laid in new memory; a width and places packed in it. No condition. -/
namespace Go.Proofs.YtppeagjklndidaaGreatDoor
open Go.RowKit
set_option linter.unusedVariables false
set_option linter.unusedSimpArgs false
set_option maxRecDepth 100000

theorem two_parts (w : World) (t : TypeId) (v1 v2 : Value) (l1 l2 : List Nat) (h1 : IsB w v1 l1) (h2 : IsB w v2 l2) :
    LL (w.alloc (.cells #[v1, v2] t)) (some ⟨w.heap.size, 0, none⟩) [l1, l2] := by
  have hb : Below w.heap.size w (w.alloc (.cells #[v1, v2] t)) := (Below.refl _ _).alloc (Nat.le_refl _) _
  exact ⟨[v1, v2], reads_blk (Blk.new w t #[v1, v2]) _ 2 _ (by simp) rfl rfl, h1.next hb, h2.next hb, trivial⟩
/-- What stands behind a list: the width of the places, and these, packed in it. -/
def pcB (P : List Nat) : List Nat := wd P :: packB (wd P) P
theorem pcB_flat (P : List Nat) : [[wd P], packB (wd P) P].flatten = pcB P := by simp [pcB]
end Go.Proofs.YtppeagjklndidaaGreatDoor

/- A row that is filled in order: so many places are filled, the others are zero. No program. -/
namespace Go.Proofs.YtppeagjklndidaaGreatDoor
open Go.RowKit
set_option linter.unusedVariables false
set_option linter.unusedSimpArgs false
set_option maxRecDepth 100000

/-- A row of which 'k' are filled. -/
def fillW (xs : List Value) (z : Value) (k : Nat) : Array Value := (xs.take k ++ List.replicate (xs.length - k) z).toArray
theorem fillW_zero (xs : List Value) (z : Value) (n : Nat) (h : xs.length = n) : fillW xs z 0 = madeCells #[z] n := by
  apply Array.ext'
  rw [toList_madeCells_one]
  simp [fillW, h]
theorem fillW_all (xs : List Value) (z : Value) (n : Nat) (h : xs.length = n) : fillW xs z n = xs.toArray := by
  unfold fillW
  rw [List.take_of_length_le (by omega), h, Nat.sub_self]
  simp
theorem fillW_old (xs : List Value) (z : Value) (k : Nat) (h : k < xs.length) : (fillW xs z k)[k]? = some z := by
  unfold fillW
  rw [List.getElem?_toArray, List.getElem?_append_right (by rw [List.length_take]; omega), List.getElem?_replicate, if_pos (by rw [List.length_take]; omega)]
theorem fillW_next (xs : List Value) (z : Value) (k : Nat) (v : Value) (h : xs[k]? = some v) : (fillW xs z k).setIfInBounds k v = fillW xs z (k + 1) := by
  have hk : k < xs.length := (List.getElem?_eq_some_iff.1 h).1
  unfold fillW
  rw [List.setIfInBounds_toArray]
  congr 1
  apply List.ext_getElem?
  intro i
  rw [List.getElem?_set]
  by_cases hi : k = i
  · subst hi
    rw [if_pos rfl, if_pos (by simp; omega), List.getElem?_append_left (by simp; omega), List.getElem?_take, if_pos (by omega), h]
  · rw [if_neg hi]
    by_cases h2 : i < k
    · rw [List.getElem?_append_left (by simp; omega), List.getElem?_append_left (by simp; omega), List.getElem?_take, List.getElem?_take, if_pos h2, if_pos (by omega)]
    · rw [List.getElem?_append_right (by simp; omega), List.getElem?_append_right (by simp; omega), List.getElem?_replicate, List.getElem?_replicate]
      simp only [List.length_take]
      by_cases h3 : i < xs.length
      · rw [if_pos (by omega), if_pos (by omega)]
      · rw [if_neg (by omega), if_neg (by omega)]
/-- A block that is just the row is the call's own. -/
theorem own_whole {w : World} {B h n : Nat} {t : TypeId} {xs : List Value} (hb : Blk w h t xs.toArray) (hB : B ≤ h) (hn : xs.length = n) (hm : n ≤ maxLen) :
    w.ownsRow B t 1 (.slice (some ⟨h, 0, none⟩) n n) n xs :=
  ⟨by omega, .inr ⟨h, n, xs.toArray, rfl, hB, hb, Nat.le_refl _, hm, by simp; omega, by simp; rw [List.take_of_length_le (by omega)]⟩⟩
end Go.Proofs.YtppeagjklndidaaGreatDoor

/- Contract of package places' Put over texts, whose places a function literal tells: the width and the places, packed, in new memory. -/
namespace Go.Proofs.YtppeagjklndidaaGreatDoor
open Go.RowKit
set_option linter.unusedVariables false
set_option linter.unusedSimpArgs false
set_option maxRecDepth 100000

set_option maxHeartbeats 1000000 in
theorem pcPutS_any (A : Option Addr) (n c bc : Nat) (xs : List Value) (P : List Nat) (w : World) (hr : Reads w w.heap.size 1 A n xs) (hP : P.length = n) (h16 : ∀ a ∈ P, a < 65536) (hn : n ≤ 65536)
    (hf : ∀ (k p : Nat) (x : Value) (W : World), xs[k]? = some x → P[k]? = some p → Below w.heap.size w W →
      Calls Tryz.prog 47 #[x, .pointer (some ⟨bc, 0, none⟩)] W fun e W' => e = .returned (.int .u64 (p : Int)) ∧ Below W.heap.size W W') :
    Calls Tryz.prog 46 #[.slice A n c, .func (.func 47) #[] #[.pointer (some ⟨bc, 0, none⟩)]] w (New w (bs (pcB P)) (pcB P).length) := by
  have hpl : (us P).length = n := by rw [us_length, hP]
  have hmk := fun W => run_make_u64 n n (Nat.le_refl _) (by omega) W
  rw [← fillW_zero (us P) (.int .u64 0) n hpl] at hmk
  have hw16 : wd P ≤ 16 := (wd_le P 16).2 fun a ha => by have := h16 a ha; simpa using this
  have HPL := Lib.hid hpl; have HF := Lib.hid hf; have HP := Lib.hid hP
  have H64 := Lib.hid (fun a (ha : a ∈ P) => (show a < 18446744073709551616 by have := h16 a ha; omega))
  have HD := Lib.hid (pcB_flat P)
  have hF0 := Blk.new w 46 (fillW (us P) (.int .u64 0) 0)
  have hb0 : Below w.heap.size w (w.alloc (.cells (fillW (us P) (.int .u64 0) 0) 46)) := (Below.refl _ _).alloc (Nat.le_refl _) _
  obtain ⟨K, hK⟩ : ∃ K, K = wd P := ⟨_, rfl⟩
  rw [← hK] at hw16 HD
  have hsz : (packB K P).length ≤ 131073 := by
    rw [packB_length, hP]
    have h8 : n * K ≤ 65536 * 16 := Nat.mul_le_mul hn hw16
    unfold sz
    omega
  have HK := Lib.hid hK
  clear hpl hf hP h16 hK
  go_enter Tryz.func46, Tryz.ntmps46
  go_wp2_with fail
  clear hmk
  go_loopw [16] (fun s16 wr => ∃ k : Nat, k ≤ n ∧ s16 = .int .i64 (k : Int) ∧ Blk wr w.heap.size 46 (fillW (us P) (.int .u64 0) k) ∧ Below w.heap.size w wr) (fun i _ => n - (intOf i).toNat)
  case atStart => exact ⟨0, by omega, rfl, hF0, hb0⟩
  case round =>
    clear hF0 hb0
    obtain ⟨k, hk, rfl, hF, hb⟩ := hrel
    by_cases hlt : k < n
    · obtain ⟨ad, x, rfl, _, hx, hc0⟩ := (hr.below hb).at_ hlt
      obtain ⟨p, hp⟩ : ∃ p, P[k]? = some p := ⟨_, List.getElem?_eq_getElem (by rw [HP.out]; exact hlt)⟩
      have HC := Lib.hid (HF.out k p x wr hx hp hb)
      have HV := Lib.hid (us_get hp)
      have hFl := hF.lt
      clear hx hp
      go_wp2_with fail
      refine HC.out.mono ?_
      rintro e w2 ⟨rfl, hb2⟩
      have hF2 := hF.below hb2 hFl
      have hb02 := hb.trans (hb2.mono hb.size)
      have hc := hF2.cell k
      rw [fillW_old _ _ k (by rw [HPL.out]; omega)] at hc
      have hf := hF2.frozen k
      clear hF hb hb2 hc0
      go_wp2_with fail
      go_round
      case rel =>
        refine ⟨k + 1, by omega, by go_num, ?_, hb02.setCell (Nat.le_refl _) _⟩
        have h1 := hF2.set_ k (.int .u64 (p : Int))
        rw [fillW_next _ _ k _ HV.out] at h1
        exact h1
      case measure => simp [intOf]; omega
    · obtain rfl : k = n := by omega
      rw [fillW_all _ _ k HPL.out] at hF
      have rP : Reads wr wr.heap.size 1 (some ⟨w.heap.size, 0, none⟩) k (us P) := reads_blk hF _ k _ hF.lt HPL.out (by simp; rw [List.take_of_length_le (by rw [HPL.out]; exact Nat.le_refl _)])
      clear hF
      go_wp2_with fail
      refine (width_any _ k k P wr rP H64.out (by omega)).mono ?_
      rintro e w' ⟨rfl, rfl⟩
      rw [← HK.out]
      go_wp2_with fail
      refine (pack_ok _ k k P _ K rfl wr rP H64.out (by omega) (by omega) (by rw [HK.out]; exact Nat.le_refl _)).mono ?_
      rintro e w3 ⟨v3, rfl, hown3, hb3⟩
      obtain ⟨A3, c3, rfl, _, _, r3⟩ := own_slice hown3
      have hb03 := hb.trans (hb3.mono hb.size)
      have hba : Below w3.heap.size w3 (w3.alloc (.cells #[.int .u8 (K : Int)] 5)) := (Below.refl _ _).alloc (Nat.le_refl _) _
      have i2 : IsB (w3.alloc (.cells #[.int .u8 (K : Int)] 5)) (.slice (some ⟨w3.heap.size, 0, none⟩) 1 1) [K] := ⟨_, 1, rfl, reads_blk (Blk.new w3 _ _) _ 1 _ (by simp) rfl rfl⟩
      have i3 : IsB (w3.alloc (.cells #[.int .u8 (K : Int)] 5)) (.slice A3 (packB K P).length c3) (packB K P) := ⟨A3, c3, rfl, r3.next hba⟩
      have hb04 := hb03.trans (hba.mono hb03.size)
      have h3 := two_parts _ 22 _ _ [K] (packB K P) i2 i3
      rw [show (w3.alloc (.cells #[.int .u8 (K : Int)] 5)).heap.size = w3.heap.size + 1 by simp] at h3
      clear hown3 r3 hb3 rP
      go_wp2_with fail
      refine (concat_any (some ⟨w3.heap.size + 1, 0, none⟩) 2 2 [[K], packB K P] _ h3 rfl (by omega) (by simp; omega)).mono ?_
      rintro e w6 ⟨v, rfl, hown, hb6⟩
      have hb5 := hb04.alloc hb04.size (.cells #[.slice (some ⟨w3.heap.size, 0, none⟩) 1 1, .slice A3 (packB K P).length c3] 22)
      rw [HD.out] at hown
      go_wp2_with fail
      go_ret
      exact ⟨v, rfl, own_base hown hb5.size, hb5.trans (hb6.mono hb5.size)⟩
end Go.Proofs.YtppeagjklndidaaGreatDoor
