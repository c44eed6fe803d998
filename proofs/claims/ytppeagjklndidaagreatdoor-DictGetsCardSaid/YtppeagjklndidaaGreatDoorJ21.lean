/- Texts joined: PcPutI Hmf DcPut. -/
import Derived.Test.YtppeagjklndidaaGreatDoorJ20
import Derived.Test.YtppeagjklndidaaGreatDoorJ18
import Derived.Test.YtppeagjklndidaaGreatDoorJ15
import Derived.Test.YtppeagjklndidaaGreatDoorJ2
import Derived.Test.YtppeagjklndidaaGreatDoorDcListed
import Derived.Test.YtppeagjklndidaaGreatDoorJ16
/- Contract of package places' Put over numbers with a sign, whose places a function literal tells: the width and the places, packed, in new memory. -/
namespace Go.Proofs.YtppeagjklndidaaGreatDoor
open Go.RowKit
set_option linter.unusedVariables false
set_option linter.unusedSimpArgs false
set_option maxRecDepth 100000

set_option maxHeartbeats 1000000 in
theorem pcPutI_any (A : Option Addr) (n c bc : Nat) (xs : List Value) (P : List Nat) (w : World) (hr : Reads w w.heap.size 1 A n xs) (hP : P.length = n) (h16 : ∀ a ∈ P, a < 65536) (hn : n ≤ 65536)
    (hf : ∀ (k p : Nat) (x : Value) (W : World), xs[k]? = some x → P[k]? = some p → Below w.heap.size w W →
      Calls Tryz.prog 30 #[x, .pointer (some ⟨bc, 0, none⟩)] W fun e W' => e = .returned (.int .u64 (p : Int)) ∧ Below W.heap.size W W') :
    Calls Tryz.prog 29 #[.slice A n c, .func (.func 30) #[] #[.pointer (some ⟨bc, 0, none⟩)]] w (New w (bs (pcB P)) (pcB P).length) := by
  have hpl : (us P).length = n := by rw [us_length, hP]
  have hmk := fun W => run_make_u64 n n (Nat.le_refl _) (by omega) W
  rw [← fillW_zero (us P) (.int .u64 0) n hpl] at hmk
  have hw16 : wd P ≤ 16 := (wd_le P 16).2 fun a ha => by have := h16 a ha; simpa using this
  have HPL := Lib.hid hpl; have HF := Lib.hid hf; have HP := Lib.hid hP
  have H64 := Lib.hid (fun a (ha : a ∈ P) => (show a < 18446744073709551616 by have := h16 a ha; omega))
  have HD := Lib.hid (pcB_flat P)
  have hF0 := Blk.new w 46 (fillW (us P) (.int .u64 0) 0)
  have hb0 : Below w.heap.size w (w.alloc (.cells (fillW (us P) (.int .u64 0) 0) 46)) := (Below.refl _ _).alloc (Nat.le_refl _) _
  obtain ⟨K, hK⟩ : ∃ K, K = wd P := ⟨_, rfl⟩
  rw [← hK] at hw16 HD
  have hsz : (packB K P).length ≤ 131073 := by
    rw [packB_length, hP]
    have h8 : n * K ≤ 65536 * 16 := Nat.mul_le_mul hn hw16
    unfold sz
    omega
  have HK := Lib.hid hK
  clear hpl hf hP h16 hK
  go_enter Tryz.func29, Tryz.ntmps29
  go_wp2_with fail
  clear hmk
  go_loopw [16] (fun s16 wr => ∃ k : Nat, k ≤ n ∧ s16 = .int .i64 (k : Int) ∧ Blk wr w.heap.size 46 (fillW (us P) (.int .u64 0) k) ∧ Below w.heap.size w wr) (fun i _ => n - (intOf i).toNat)
  case atStart => exact ⟨0, by omega, rfl, hF0, hb0⟩
  case round =>
    clear hF0 hb0
    obtain ⟨k, hk, rfl, hF, hb⟩ := hrel
    by_cases hlt : k < n
    · obtain ⟨ad, x, rfl, _, hx, hc0⟩ := (hr.below hb).at_ hlt
      obtain ⟨p, hp⟩ : ∃ p, P[k]? = some p := ⟨_, List.getElem?_eq_getElem (by rw [HP.out]; exact hlt)⟩
      have HC := Lib.hid (HF.out k p x wr hx hp hb)
      have HV := Lib.hid (us_get hp)
      have hFl := hF.lt
      clear hx hp
      go_wp2_with fail
      refine HC.out.mono ?_
      rintro e w2 ⟨rfl, hb2⟩
      have hF2 := hF.below hb2 hFl
      have hb02 := hb.trans (hb2.mono hb.size)
      have hc := hF2.cell k
      rw [fillW_old _ _ k (by rw [HPL.out]; omega)] at hc
      have hf := hF2.frozen k
      clear hF hb hb2 hc0
      go_wp2_with fail
      go_round
      case rel =>
        refine ⟨k + 1, by omega, by go_num, ?_, hb02.setCell (Nat.le_refl _) _⟩
        have h1 := hF2.set_ k (.int .u64 (p : Int))
        rw [fillW_next _ _ k _ HV.out] at h1
        exact h1
      case measure => simp [intOf]; omega
    · obtain rfl : k = n := by omega
      rw [fillW_all _ _ k HPL.out] at hF
      have rP : Reads wr wr.heap.size 1 (some ⟨w.heap.size, 0, none⟩) k (us P) := reads_blk hF _ k _ hF.lt HPL.out (by simp; rw [List.take_of_length_le (by rw [HPL.out]; exact Nat.le_refl _)])
      clear hF
      go_wp2_with fail
      refine (width_any _ k k P wr rP H64.out (by omega)).mono ?_
      rintro e w' ⟨rfl, rfl⟩
      rw [← HK.out]
      go_wp2_with fail
      refine (pack_ok _ k k P _ K rfl wr rP H64.out (by omega) (by omega) (by rw [HK.out]; exact Nat.le_refl _)).mono ?_
      rintro e w3 ⟨v3, rfl, hown3, hb3⟩
      obtain ⟨A3, c3, rfl, _, _, r3⟩ := own_slice hown3
      have hb03 := hb.trans (hb3.mono hb.size)
      have hba : Below w3.heap.size w3 (w3.alloc (.cells #[.int .u8 (K : Int)] 5)) := (Below.refl _ _).alloc (Nat.le_refl _) _
      have i2 : IsB (w3.alloc (.cells #[.int .u8 (K : Int)] 5)) (.slice (some ⟨w3.heap.size, 0, none⟩) 1 1) [K] := ⟨_, 1, rfl, reads_blk (Blk.new w3 _ _) _ 1 _ (by simp) rfl rfl⟩
      have i3 : IsB (w3.alloc (.cells #[.int .u8 (K : Int)] 5)) (.slice A3 (packB K P).length c3) (packB K P) := ⟨A3, c3, rfl, r3.next hba⟩
      have hb04 := hb03.trans (hba.mono hb03.size)
      have h3 := two_parts _ 22 _ _ [K] (packB K P) i2 i3
      rw [show (w3.alloc (.cells #[.int .u8 (K : Int)] 5)).heap.size = w3.heap.size + 1 by simp] at h3
      clear hown3 r3 hb3 rP
      go_wp2_with fail
      refine (concat_any (some ⟨w3.heap.size + 1, 0, none⟩) 2 2 [[K], packB K P] _ h3 rfl (by omega) (by simp; omega)).mono ?_
      rintro e w6 ⟨v, rfl, hown, hb6⟩
      have hb5 := hb04.alloc hb04.size (.cells #[.slice (some ⟨w3.heap.size, 0, none⟩) 1 1, .slice A3 (packB K P).length c3] 22)
      rw [HD.out] at hown
      go_wp2_with fail
      go_ret
      exact ⟨v, rfl, own_base hown hb5.size, hb5.trans (hb6.mono hb5.size)⟩
end Go.Proofs.YtppeagjklndidaaGreatDoor

/- A function value that is made. No condition. -/
namespace Go.Proofs.YtppeagjklndidaaGreatDoor
open Go.RowKit
theorem hmfP (fn : Fn) (first cap : Array Value) (w : World) : (Instr.makeFunc fn first cap).run Tryz.prog w = .ok (.func fn first cap) w := by rfl
end Go.Proofs.YtppeagjklndidaaGreatDoor

/- Contract of package dict's Put: the form by a list in new memory, or ErrLimit. -/
namespace Go.Proofs.YtppeagjklndidaaGreatDoor
open Go.RowKit Go.Maps
set_option linter.unusedVariables false
set_option linter.unusedSimpArgs false
set_option maxRecDepth 100000

theorem MapAt.below {w w' : World} {b m : Nat} {D : DataW Unit} (h : MapAt w b m D) (hb : Below w.heap.size w w') : MapAt w' b m D := by
  have hlt := World.ownsMap.lt h
  obtain ⟨es, clock, h1, r⟩ := h
  exact ⟨es, clock, (hb.block b hlt).trans h1, r⟩
theorem dcPut_no (A : Option Addr) (n c : Nat) (w : World) (hn : 65536 < n) :
    Calls Tryz.prog 13 #[.slice A n c] w (NewE w [] 12) := by
  go_enter Tryz.func13, Tryz.ntmps13
  go_wp2_with fail
  go_ret2
  exact ⟨.slice none 0 0, rfl, own_nil _ _ _ _, Below.refl _ _⟩
/-- The place of a number that the map tells. -/
theorem place_of (bc b m : Nat) (D : DataW Unit) (L : List Int) (z : Int) (W : World) (hc : W.cell? ⟨bc, 0, none⟩ = some (.map (some b))) (hmap : MapAt W b m D) (hat : AtD D L L.length) (hzin : In64 z) (hmem : z ∈ L) :
    Calls Tryz.prog 30 #[.int .i64 z, .pointer (some ⟨bc, 0, none⟩)] W fun e W' => e = .returned (.int .u64 (posD L z : Int)) ∧ W = W' := by
  have HKEY := Lib.hid (key_in hzin)
  have HVAL := Lib.hid (hat (posD L z) z (posD_lt hmem) (posD_at hmem))
  clear hat hmem
  go_enter Tryz.func30, Tryz.ntmps30
  go_wp2_with (first | (at_lookup; refine wpList_lookup_own_int _ rfl _ _ 60 rfl 2 46 .u64 law_i64 Tryz.underlying60 Tryz.underlying46 (zero_u64 _) b m D rfl hmap _ _ rfl HKEY.out ?_; intro cv hat hwc) | fail)
  go_ret
  have hcv : (Value.int .u64 cv) = .int .u64 (posD L z : Int) := by
    have := hat.symm.trans HVAL.out
    injection this with this
    injection this with _ this
    rw [this]
  exact ⟨by rw [hcv]; rfl, rfl⟩
theorem dc_pcB (l : List Int) : dc l = hdD (lstD l) ++ pcB (plcD l) := by unfold dc pcB; simp
set_option maxHeartbeats 1000000 in
theorem dcPut_any (A : Option Addr) (n c : Nat) (l : List Int) (w : World) (hr : Reads w w.heap.size 1 A n (zs l)) (hl : ∀ x ∈ l, In64 x) (hn : n ≤ 65536) :
    Calls Tryz.prog 13 #[.slice A n c] w (NewE w (dc l) 0) := by
  obtain ⟨i0, hi0, hz0, hz1, hz2⟩ := info_parts info_u8
  have e1 : l.length = n := by have := hr.1; rw [zs_length] at this; omega
  have hdp := dc_parts l (by omega)
  have hll := lstD_length l
  rw [e1] at hll
  have HPA := Lib.hid (fun a (ha : a ∈ plcD l) => (show a < 65536 by have := plcD_lt l a ha; omega))
  have HPL : Hid ((plcD l).length = n) := Lib.hid (by rw [plcD_length, e1])
  have HD := Lib.hid (dc_pcB l)
  have hpc : (pcB (plcD l)).length ≤ 131074 := by unfold pcB; rw [List.length_cons]; omega
  have HRI := Lib.hid (lstD_rise l)
  have HLI := Lib.hid (lstD_in hl)
  have HMEM := Lib.hid (fun (k p : Nat) (x : Value) (h1 : (zs l)[k]? = some x) (h2 : (plcD l)[k]? = some p) => (show ∃ z, x = .int .i64 z ∧ In64 z ∧ z ∈ lstD l ∧ p = posD (lstD l) z by
    obtain ⟨z, hz, rfl⟩ := zs_at h1
    refine ⟨z, rfl, hl z (List.mem_of_getElem? hz), (lstD_mem l z).2 (List.mem_of_getElem? hz), ?_⟩
    unfold plcD at h2
    rw [List.getElem?_map, hz] at h2
    injection h2 with h2
    exact h2.symm))
  have d1 : decide ((65536 : Int) < (n : Int)) = false := by simp; omega
  have hmf' := hmfP
  obtain ⟨L, hL⟩ : ∃ L, L = lstD l := ⟨_, rfl⟩
  obtain ⟨P, hP⟩ : ∃ P, P = plcD l := ⟨_, rfl⟩
  have hla := listed_any A n c l w hr hl (by omega)
  unfold Listed at hla
  rw [← hL] at hla hll HRI HLI HD HMEM hdp
  rw [← hP] at HPA HPL HD hpc HMEM
  have HLA := Lib.hid hla
  have hr' := hr
  clear e1 hL hP hla hl hr
  go_enter Tryz.func13, Tryz.ntmps13
  go_wp2_with fail
  refine HLA.out.mono ?_
  rintro e w1 ⟨v1, b, m, D, rfl, hown1, hmap1, hat1, hb1⟩
  have HAT := Lib.hid hat1
  obtain ⟨A1, c1, rfl, hc1, hm1, r1⟩ := own_slice hown1
  have hba : Below w1.heap.size w1 (w1.alloc (.cells #[.map (some b)] 60)) := (Below.refl _ _).alloc (Nat.le_refl _) _
  obtain ⟨W, hW⟩ : ∃ W, W = w1.alloc (.cells #[.map (some b)] 60) := ⟨_, rfl⟩
  have hWs : W.heap.size = w1.heap.size + 1 := by rw [hW]; simp
  have hcW : W.cell? ⟨w1.heap.size, 0, none⟩ = some (.map (some b)) := by rw [hW]; simp
  rw [← hW] at hba
  have hbW := hb1.trans (hba.mono hb1.size)
  have HP := Lib.hid (pcPutI_any A n c w1.heap.size (zs l) P W ((hr'.below hb1).more hb1.size |>.next hba) HPL.out HPA.out hn fun k p x W' h1 h2 hb => by
    obtain ⟨z, rfl, h3, h4, rfl⟩ := HMEM.out k p x h1 h2
    refine (place_of w1.heap.size b m D L z W' ((hb.cell (p := ⟨w1.heap.size, 0, none⟩) (by show w1.heap.size < _; omega)).trans hcW) ((hmap1.below hba).below hb) HAT.out h3 h4).mono ?_
    rintro e w' ⟨rfl, rfl⟩
    exact ⟨rfl, Below.refl _ _⟩)
  have HW := Lib.hid hW
  clear hat1 hmap1 hown1 hcW HMEM hW
  go_wp2_with fail
  rw [← HW.out]
  refine HP.out.mono ?_
  intro e w2 hN2
  obtain ⟨A2, c2, rfl, _, r2, hb2⟩ := hN2.opened
  have hb02 := hbW.trans (hb2.mono hbW.size)
  have r12 := (r1.next hba).next hb2
  clear hN2 r1 hba hb2
  go_wp2_with fail
  refine (putL_any A1 L.length c1 L w2 r12 HRI.out HLI.out (by omega)).mono ?_
  rintro e w4 ⟨v4, rfl, hown4, hb4⟩
  have r24 := r2.next hb4
  have hb04 := hb02.trans (hb4.mono hb02.size)
  have h24 := hb4.size
  clear r12 r2 hb4
  go_wp2_with (at_builtin
               refine wpList_append_any _ rfl (.tmp 19) (.tmp 20) _ rfl w2.heap.size 5 i0 _ 1 1 Tryz.underlying22 hi0 hz0 hz1 hz2 rfl (by omega) v4 (hdD L).length (bs (hdD L)) rfl
                 hown4 w4.heap.size A2 (pcB P).length c2 (bs (pcB P)) rfl r24 (bs_one _) (by unfold maxLen; omega) (by omega) h24 ?_
               intro v5 w5 hown5 hg5 hat5)
  go_ret2
  rw [HD.out]
  rw [← bs_append, ← List.length_append] at hown5
  exact ⟨v5, rfl, own_base hown5 hb02.size, hb04.grown hg5 hb04.size (fun k hk => by have := (hown4.lt k hk).1; have := hb02.size; omega)⟩
end Go.Proofs.YtppeagjklndidaaGreatDoor
