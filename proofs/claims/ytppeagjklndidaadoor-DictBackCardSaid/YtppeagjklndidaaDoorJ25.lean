/- Texts joined: Fill PcPutI Hmf. -/
import Derived.Test.YtppeagjklndidaaDoorWords
import Derived.Test.YtppeagjklndidaaDoorJ24
import Derived.Test.YtppeagjklndidaaDoorJ21
import Derived.Test.YtppeagjklndidaaDoorJ17
import Derived.Test.YtppeagjklndidaaDoorJ3
/- A row that is filled in order: so many places are filled, the others are zero. No program. -/
namespace Go.Proofs.YtppeagjklndidaaDoor
open Go.RowKit
set_option linter.unusedVariables false
set_option linter.unusedSimpArgs false
set_option maxRecDepth 100000

/-- A row of which 'k' are filled. -/
def fillW (xs : List Value) (z : Value) (k : Nat) : Array Value := (xs.take k ++ List.replicate (xs.length - k) z).toArray
theorem fillW_zero (xs : List Value) (z : Value) (n : Nat) (h : xs.length = n) : fillW xs z 0 = madeCells #[z] n := by
  apply Array.ext'
  rw [toList_madeCells_one]
  simp [fillW, h]
theorem fillW_all (xs : List Value) (z : Value) (n : Nat) (h : xs.length = n) : fillW xs z n = xs.toArray := by
  unfold fillW
  rw [List.take_of_length_le (by omega), h, Nat.sub_self]
  simp
theorem fillW_old (xs : List Value) (z : Value) (k : Nat) (h : k < xs.length) : (fillW xs z k)[k]? = some z := by
  unfold fillW
  rw [List.getElem?_toArray, List.getElem?_append_right (by rw [List.length_take]; omega), List.getElem?_replicate, if_pos (by rw [List.length_take]; omega)]
theorem fillW_next (xs : List Value) (z : Value) (k : Nat) (v : Value) (h : xs[k]? = some v) : (fillW xs z k).setIfInBounds k v = fillW xs z (k + 1) := by
  have hk : k < xs.length := (List.getElem?_eq_some_iff.1 h).1
  unfold fillW
  rw [List.setIfInBounds_toArray]
  congr 1
  apply List.ext_getElem?
  intro i
  rw [List.getElem?_set]
  by_cases hi : k = i
  · subst hi
    rw [if_pos rfl, if_pos (by simp; omega), List.getElem?_append_left (by simp; omega), List.getElem?_take, if_pos (by omega), h]
  · rw [if_neg hi]
    by_cases h2 : i < k
    · rw [List.getElem?_append_left (by simp; omega), List.getElem?_append_left (by simp; omega), List.getElem?_take, List.getElem?_take, if_pos h2, if_pos (by omega)]
    · rw [List.getElem?_append_right (by simp; omega), List.getElem?_append_right (by simp; omega), List.getElem?_replicate, List.getElem?_replicate]
      simp only [List.length_take]
      by_cases h3 : i < xs.length
      · rw [if_pos (by omega), if_pos (by omega)]
      · rw [if_neg (by omega), if_neg (by omega)]
/-- A block that is just the row is the call's own. -/
theorem own_whole {w : World} {B h n : Nat} {t : TypeId} {xs : List Value} (hb : Blk w h t xs.toArray) (hB : B ≤ h) (hn : xs.length = n) (hm : n ≤ maxLen) :
    w.ownsRow B t 1 (.slice (some ⟨h, 0, none⟩) n n) n xs :=
  ⟨by omega, .inr ⟨h, n, xs.toArray, rfl, hB, hb, Nat.le_refl _, hm, by simp; omega, by simp; rw [List.take_of_length_le (by omega)]⟩⟩
end Go.Proofs.YtppeagjklndidaaDoor

/- Contract of package places' Put over numbers with a sign, whose places a function literal tells: the width and the places, packed, in new memory. -/
namespace Go.Proofs.YtppeagjklndidaaDoor
open Go.RowKit
set_option linter.unusedVariables false
set_option linter.unusedSimpArgs false
set_option maxRecDepth 100000

set_option maxHeartbeats 1000000 in
theorem pcPutI_any (A : Option Addr) (n c bc : Nat) (xs : List Value) (P : List Nat) (w : World) (hr : Reads w w.heap.size 1 A n xs) (hP : P.length = n) (h16 : ∀ a ∈ P, a < 65536) (hn : n ≤ 65536)
    (hf : ∀ (k p : Nat) (x : Value) (W : World), xs[k]? = some x → P[k]? = some p → Below w.heap.size w W →
      Calls Tryd.prog 18 #[x, .pointer (some ⟨bc, 0, none⟩)] W fun e W' => e = .returned (.int .u64 (p : Int)) ∧ Below W.heap.size W W') :
    Calls Tryd.prog 17 #[.slice A n c, .func (.func 18) #[] #[.pointer (some ⟨bc, 0, none⟩)]] w (New w (bs (pcB P)) (pcB P).length) := by
  have hpl : (us P).length = n := by rw [us_length, hP]
  have hmk := fun W => run_make_u64 n n (Nat.le_refl _) (by omega) W
  rw [← fillW_zero (us P) (.int .u64 0) n hpl] at hmk
  have hw16 : wd P ≤ 16 := (wd_le P 16).2 fun a ha => by have := h16 a ha; simpa using this
  have HPL := Lib.hid hpl; have HF := Lib.hid hf; have HP := Lib.hid hP
  have H64 := Lib.hid (fun a (ha : a ∈ P) => (show a < 18446744073709551616 by have := h16 a ha; omega))
  have HD := Lib.hid (pcB_flat P)
  have hF0 := Blk.new w 45 (fillW (us P) (.int .u64 0) 0)
  have hb0 : Below w.heap.size w (w.alloc (.cells (fillW (us P) (.int .u64 0) 0) 45)) := (Below.refl _ _).alloc (Nat.le_refl _) _
  obtain ⟨K, hK⟩ : ∃ K, K = wd P := ⟨_, rfl⟩
  rw [← hK] at hw16 HD
  have hsz : (packB K P).length ≤ 131073 := by
    rw [packB_length, hP]
    have h8 : n * K ≤ 65536 * 16 := Nat.mul_le_mul hn hw16
    unfold sz
    omega
  have HK := Lib.hid hK
  clear hpl hf hP h16 hK
  go_enter Tryd.func17, Tryd.ntmps17
  go_wp2_with fail
  clear hmk
  go_loopw [16] (fun s16 wr => ∃ k : Nat, k ≤ n ∧ s16 = .int .i64 (k : Int) ∧ Blk wr w.heap.size 45 (fillW (us P) (.int .u64 0) k) ∧ Below w.heap.size w wr) (fun i _ => n - (intOf i).toNat)
  case atStart => exact ⟨0, by omega, rfl, hF0, hb0⟩
  case round =>
    clear hF0 hb0
    obtain ⟨k, hk, rfl, hF, hb⟩ := hrel
    by_cases hlt : k < n
    · obtain ⟨ad, x, rfl, _, hx, hc0⟩ := (hr.below hb).at_ hlt
      obtain ⟨p, hp⟩ : ∃ p, P[k]? = some p := ⟨_, List.getElem?_eq_getElem (by rw [HP.out]; exact hlt)⟩
      have HC := Lib.hid (HF.out k p x wr hx hp hb)
      have HV := Lib.hid (us_get hp)
      have hFl := hF.lt
      clear hx hp
      go_wp2_with fail
      refine HC.out.mono ?_
      rintro e w2 ⟨rfl, hb2⟩
      have hF2 := hF.below hb2 hFl
      have hb02 := hb.trans (hb2.mono hb.size)
      have hc := hF2.cell k
      rw [fillW_old _ _ k (by rw [HPL.out]; omega)] at hc
      have hf := hF2.frozen k
      clear hF hb hb2 hc0
      go_wp2_with fail
      go_round
      case rel =>
        refine ⟨k + 1, by omega, by go_num, ?_, hb02.setCell (Nat.le_refl _) _⟩
        have h1 := hF2.set_ k (.int .u64 (p : Int))
        rw [fillW_next _ _ k _ HV.out] at h1
        exact h1
      case measure => simp [intOf]; omega
    · obtain rfl : k = n := by omega
      rw [fillW_all _ _ k HPL.out] at hF
      have rP : Reads wr wr.heap.size 1 (some ⟨w.heap.size, 0, none⟩) k (us P) := reads_blk hF _ k _ hF.lt HPL.out (by simp; rw [List.take_of_length_le (by rw [HPL.out]; exact Nat.le_refl _)])
      clear hF
      go_wp2_with fail
      refine (width_any _ k k P wr rP H64.out (by omega)).mono ?_
      rintro e w' ⟨rfl, rfl⟩
      rw [← HK.out]
      go_wp2_with fail
      refine (pack_ok _ k k P _ K rfl wr rP H64.out (by omega) (by omega) (by rw [HK.out]; exact Nat.le_refl _)).mono ?_
      rintro e w3 ⟨v3, rfl, hown3, hb3⟩
      obtain ⟨A3, c3, rfl, _, _, r3⟩ := own_slice hown3
      have hb03 := hb.trans (hb3.mono hb.size)
      have hba : Below w3.heap.size w3 (w3.alloc (.cells #[.int .u8 (K : Int)] 5)) := (Below.refl _ _).alloc (Nat.le_refl _) _
      have i2 : IsB (w3.alloc (.cells #[.int .u8 (K : Int)] 5)) (.slice (some ⟨w3.heap.size, 0, none⟩) 1 1) [K] := ⟨_, 1, rfl, reads_blk (Blk.new w3 _ _) _ 1 _ (by simp) rfl rfl⟩
      have i3 : IsB (w3.alloc (.cells #[.int .u8 (K : Int)] 5)) (.slice A3 (packB K P).length c3) (packB K P) := ⟨A3, c3, rfl, r3.next hba⟩
      have hb04 := hb03.trans (hba.mono hb03.size)
      have h3 := two_parts _ 23 _ _ [K] (packB K P) i2 i3
      rw [show (w3.alloc (.cells #[.int .u8 (K : Int)] 5)).heap.size = w3.heap.size + 1 by simp] at h3
      clear hown3 r3 hb3 rP
      go_wp2_with fail
      refine (concat_any (some ⟨w3.heap.size + 1, 0, none⟩) 2 2 [[K], packB K P] _ h3 rfl (by omega) (by simp; omega)).mono ?_
      rintro e w6 ⟨v, rfl, hown, hb6⟩
      have hb5 := hb04.alloc hb04.size (.cells #[.slice (some ⟨w3.heap.size, 0, none⟩) 1 1, .slice A3 (packB K P).length c3] 23)
      rw [HD.out] at hown
      go_wp2_with fail
      go_ret
      exact ⟨v, rfl, own_base hown hb5.size, hb5.trans (hb6.mono hb5.size)⟩
end Go.Proofs.YtppeagjklndidaaDoor

/- A function value that is made. No condition. -/
namespace Go.Proofs.YtppeagjklndidaaDoor
open Go.RowKit
theorem hmfP (fn : Fn) (first cap : Array Value) (w : World) : (Instr.makeFunc fn first cap).run Tryd.prog w = .ok (.func fn first cap) w := by rfl
end Go.Proofs.YtppeagjklndidaaDoor
