/- Texts joined: DcPut Same DcAwake. -/
import Derived.Test.YtkcbmipcgjheoaaDoorJ11
import Derived.Test.YtkcbmipcgjheoaaDoorJ12
import Derived.Test.YtkcbmipcgjheoaaDoorJ14
import Derived.Test.YtkcbmipcgjheoaaDoorJ17
import Derived.Test.YtkcbmipcgjheoaaDoorJ2
/- Contract of package dict's Put: the form by a list in new memory, or ErrLimit. -/
namespace Go.Proofs.YtkcbmipcgjheoaaDoor
open Go.RowKit Go.Maps
set_option linter.unusedVariables false
set_option linter.unusedSimpArgs false
set_option maxRecDepth 100000

theorem MapAt.below {w w' : World} {b m : Nat} {D : DataW Unit} (h : MapAt w b m D) (hb : Below w.heap.size w w') : MapAt w' b m D := by
  have hlt := World.ownsMap.lt h
  obtain ⟨es, clock, h1, r⟩ := h
  exact ⟨es, clock, (hb.block b hlt).trans h1, r⟩
theorem us_some {l : List Nat} {k a : Nat} (h : l[k]? = some a) : (us l)[k]? = some (.int .u64 (a : Int)) := by unfold us; rw [List.getElem?_map, h]; rfl
theorem dcPut_no (A : Option Addr) (n c : Nat) (w : World) (hn : 65536 < n) :
    Calls Tryd.prog 9 #[.slice A n c] w (NewE w [] 12) := by
  go_enter Tryd.func9, Tryd.ntmps9
  go_wp2_with fail
  go_ret2
  exact ⟨.slice none 0 0, rfl, own_nil _ _ _ _, Below.refl _ _⟩
set_option maxHeartbeats 1000000 in
theorem dcPut_any (A : Option Addr) (n c : Nat) (l : List Int) (w : World) (hr : Reads w w.heap.size 1 A n (zs l)) (hl : ∀ x ∈ l, In64 x) (hn : n ≤ 65536) :
    Calls Tryd.prog 9 #[.slice A n c] w (NewE w (dc l) 0) := by
  have e1 : l.length = n := by have := hr.1; rw [zs_length] at this; omega
  have E1 := Lib.hid e1
  have hpl : (us (plcD l)).length = n := by rw [us_length, plcD_length, e1]
  have hmk := fun W => run_make_u64 n n (Nat.le_refl _) (by omega) W
  rw [← fillW_zero (us (plcD l)) (.int .u64 0) n hpl] at hmk
  have HPL := Lib.hid hpl
  have hdp := dc_parts l (by omega)
  have HPA := Lib.hid (plcD_lt l)
  have hw16 := wd_plcD_le l (by omega)
  have hll := lstD_length l
  rw [e1] at hll
  have HD := Lib.hid (dc_flat l)
  have HRI := Lib.hid (lstD_rise l)
  have HLI := Lib.hid (lstD_in hl)
  have d1 : decide ((65536 : Int) < (n : Int)) = false := by simp; omega
  clear e1 hpl
  go_enter Tryd.func9, Tryd.ntmps9
  go_wp2_with fail
  refine (listed_any A n c l w hr hl (by omega)).mono ?_
  rintro e w1 ⟨v1, b, m, D, rfl, hown1, hmap1, hat1, hb1⟩
  have hF0 := Blk.new w1 44 (fillW (us (plcD l)) (.int .u64 0) 0)
  have hb10 : Below w1.heap.size w1 (w1.alloc (.cells (fillW (us (plcD l)) (.int .u64 0) 0) 44)) := (Below.refl _ _).alloc (Nat.le_refl _) _
  have HAT := Lib.hid hat1
  clear hat1
  obtain ⟨A1, c1, rfl, hc1, hm1, r1⟩ := own_slice hown1
  have r1b := r1
  go_wp2_with fail
  clear hmk
  go_loopw [25] (fun s25 wr => ∃ k : Nat, k ≤ n ∧ s25 = .int .i64 (k : Int) ∧ Blk wr w1.heap.size 44 (fillW (us (plcD l)) (.int .u64 0) k) ∧ Below w1.heap.size w1 wr) (fun i _ => n - (intOf i).toNat)
  case atStart => exact ⟨0, by omega, rfl, hF0, hb10⟩
  case round =>
    clear hF0 hb10
    obtain ⟨k, hk, rfl, hF, hb⟩ := hrel
    by_cases hlt : k < n
    · obtain ⟨ad, u, rfl, _, hu, hc0⟩ := ((hr.below hb1).below (hb.mono hb1.size)).at_ hlt
      obtain ⟨z, hz, rfl⟩ := zs_at hu
      have hzin := hl z (List.mem_of_getElem? hz)
      have HKEY := Lib.hid (key_in hzin)
      have hmem : z ∈ lstD l := (lstD_mem l z).2 (List.mem_of_getElem? hz)
      have HVAL := Lib.hid (HAT.out (posD (lstD l) z) z (posD_lt hmem) (posD_at hmem))
      have HP : Hid ((us (plcD l))[k]? = some (.int .u64 (posD (lstD l) z : Int))) := Lib.hid (us_some (by unfold plcD; rw [List.getElem?_map, hz]; rfl))
      have hmap := hmap1.below hb
      have hc := hF.cell k
      rw [fillW_old _ _ k (by rw [HPL.out]; omega)] at hc
      have hf := hF.frozen k
      clear hu hz hmem
      go_wp2_with (first | (at_lookup; refine wpList_lookup_own_int _ rfl _ _ 54 rfl 2 44 .u64 law_i64 Tryd.underlying54 Tryd.underlying44 (zero_u64 _) b m D rfl hmap _ _ rfl HKEY.out ?_; intro cv hat hwc) | fail)
      go_round
      case rel =>
        refine ⟨k + 1, by omega, by go_num, ?_, hb.setCell (Nat.le_refl _) _⟩
        have hcv : (Value.int .u64 cv) = .int .u64 (posD (lstD l) z : Int) := by
          have := hat.symm.trans HVAL.out
          injection this with this
          injection this with _ this
          rw [this]
        have h1 := hF.set_ k (.int .u64 cv)
        rw [fillW_next _ _ k _ (by rw [hcv]; exact HP.out)] at h1
        exact h1
      case measure => simp [intOf]; omega
    · obtain rfl : k = n := by omega
      rw [fillW_all _ _ k HPL.out] at hF
      have rP : Reads wr wr.heap.size 1 (some ⟨w1.heap.size, 0, none⟩) k (us (plcD l)) := reads_blk hF _ k _ hF.lt HPL.out (by simp; rw [List.take_of_length_le (by rw [HPL.out]; exact Nat.le_refl _)])
      have hlt64 : ∀ a ∈ plcD l, a < 18446744073709551616 := fun a ha => by have := HPA.out a ha; omega
      have hb0 := hb1.trans (hb.mono hb1.size)
      have rL := r1.next hb
      obtain ⟨P, hP⟩ : ∃ P, P = plcD l := ⟨_, rfl⟩
      obtain ⟨K, hK⟩ : ∃ K, K = wd P := ⟨_, rfl⟩
      have hPl : P.length = k := by rw [hP, plcD_length, E1.out]
      rw [← hP] at rP hlt64 hw16 hdp HD
      rw [← hK] at hw16 hdp HD
      have HK := Lib.hid hK; have HLT := Lib.hid hlt64; have HPL2 := Lib.hid hPl
      clear hF hK hlt64 hPl hP hmap1 HAT hown1 r1 r1b hb
      go_wp2_with fail
      refine (width_any _ k k P wr rP HLT.out (by omega)).mono ?_
      rintro e w' ⟨rfl, rfl⟩
      rw [← HK.out]
      go_wp2_with fail
      refine (pack_ok _ k k P _ K rfl wr rP HLT.out (by omega) (by omega) (by rw [HK.out]; exact Nat.le_refl _)).mono ?_
      rintro e w3 ⟨v3, rfl, hown3, hb3⟩
      obtain ⟨A3, c3, rfl, _, _, r3⟩ := own_slice hown3
      have hb03 := hb0.trans (hb3.mono hb0.size)
      have rL3 := rL.next hb3
      clear hown3 rP rL
      go_wp2_with fail
      refine (putL_any A1 (lstD l).length c1 (lstD l) w3 rL3 HRI.out HLI.out (by omega)).mono ?_
      rintro e w4 ⟨v4, rfl, hown4, hb4⟩
      obtain ⟨A4, c4, rfl, _, _, r4⟩ := own_slice hown4
      have hb04 := hb03.trans (hb4.mono hb03.size)
      have i1 : IsB w4 (.slice A4 (hdD (lstD l)).length c4) (hdD (lstD l)) := ⟨A4, c4, rfl, r4⟩
      have i3 : IsB w4 (.slice A3 (packB K P).length c3) (packB K P) := ⟨A3, c3, rfl, r3.next hb4⟩
      have hba : Below w4.heap.size w4 (w4.alloc (.cells #[.int .u8 (K : Int)] 5)) := (Below.refl _ _).alloc (Nat.le_refl _) _
      have i2 : IsB (w4.alloc (.cells #[.int .u8 (K : Int)] 5)) (.slice (some ⟨w4.heap.size, 0, none⟩) 1 1) [K] := ⟨_, 1, rfl, reads_blk (Blk.new w4 _ _) _ 1 _ (by simp) rfl rfl⟩
      have hb05 := hb04.trans (hba.mono hb04.size)
      have h3 := three_parts _ 22 _ _ _ (hdD (lstD l)) [K] (packB K P) (i1.next hba) i2 (i3.next hba)
      rw [show (w4.alloc (.cells #[.int .u8 (K : Int)] 5)).heap.size = w4.heap.size + 1 by simp] at h3
      clear hown4 r3 r4 hb3 hb4 rL3
      go_wp2_with fail
      refine (concat_any (some ⟨w4.heap.size + 1, 0, none⟩) 3 3 [hdD (lstD l), [K], packB K P] _ h3 rfl (by omega) (by simp; omega)).mono ?_
      rintro e w6 ⟨v, rfl, hown, hb⟩
      go_wp2_with fail
      go_ret2
      have hb6 := hb05.alloc hb05.size (.cells #[.slice A4 (hdD (lstD l)).length c4, .slice (some ⟨w4.heap.size, 0, none⟩) 1 1, .slice A3 (packB K P).length c3] 22)
      rw [HD.out]
      exact ⟨v, rfl, own_base hown hb6.size, hb6.trans (hb.mono hb6.size)⟩
end Go.Proofs.YtkcbmipcgjheoaaDoor

/- Contracts of the statements' own small functions: Same tells whether two slices hold the same bytes; it changes nothing. -/
namespace Go.Proofs.YtkcbmipcgjheoaaDoor
open Go.RowKit
set_option linter.unusedVariables false
set_option linter.unusedSimpArgs false
set_option maxRecDepth 100000

def sameB (l m : List Nat) : Bool := decide (l = m)
theorem sameB_true {l m : List Nat} (h : l = m) : sameB l m = true := by unfold sameB; simp [h]
theorem sameB_false {l m : List Nat} (h : l ≠ m) : sameB l m = false := by unfold sameB; simp [h]

set_option maxHeartbeats 400000 in
theorem same_any (A A' : Option Addr) (n c m c' : Nat) (l1 l2 : List Nat) (w : World) (h1 : Reads w w.heap.size 1 A n (bs l1)) (h2 : Reads w w.heap.size 1 A' m (bs l2)) (hn : n ≤ 140737488355328) :
    Calls Tryd.prog 11 #[.slice A n c, .slice A' m c'] w fun e w' => e = .returned (.bool (sameB l1 l2)) ∧ Drawn w w' := by
  have e1 : l1.length = n := by have := h1.1; rw [bs_length] at this; omega
  have e2 : l2.length = m := by have := h2.1; rw [bs_length] at this; omega
  by_cases hnm : n = m
  · subst hnm
    have E1 := Lib.hid e1; have E2 := Lib.hid e2; clear e1 e2
    go_enter Tryd.func11, Tryd.ntmps11
    go_wp2_with fail
    go_loopw [5] (fun i wr => ∃ k : Nat, k ≤ n ∧ i = .int .i64 (k : Int) ∧ Hid (l1.take k = l2.take k) ∧ ∃ q, wr = w.drewN q) (fun i _ => n - (intOf i).toNat)
    case atStart => exact ⟨0, Nat.zero_le _, rfl, Lib.hid (by simp), 0, rfl⟩
    case round =>
      obtain ⟨k, hk, rfl, hpre, q, rfl⟩ := hrel
      by_cases hlt : k < n
      · obtain ⟨ad, u, rfl, _, hu, hc⟩ := h1.at_ hlt
        obtain ⟨ad', u', rfl, _, hu', hc'⟩ := h2.at_ hlt
        obtain ⟨b, hb, rfl⟩ := bs_at hu
        obtain ⟨b', hb', rfl⟩ := bs_at hu'
        have HB := Lib.hid hb; have HB' := Lib.hid hb'
        clear hb hb' hu hu'
        by_cases hbb : b = b'
        · subst hbb
          go_wp2_with fail
          go_quiet (fail)
          go_wp2_with fail
          have hpre' := hpre.out
          refine ⟨⟨k + 1, by omega, by go_num, Lib.hid ?_, _, rfl⟩, by simp [intOf]; omega⟩
          rw [List.take_add_one, List.take_add_one, hpre', HB.out, HB'.out]
        · have hne : ((b : Int) != (b' : Int)) = true := by simp; omega
          have hne' : ((b : Int) == (b' : Int)) = false := by simp; omega
          go_wp2_with fail
          go_quiet (fail)
          go_wp2_with fail
          go_ret
          refine ⟨ret_of (congrArg Value.bool (sameB_false ?_).symm), (Drawn.one w q).more _⟩
          intro h
          have := HB.out
          rw [h, HB'.out] at this
          injection this with this
          omega
      · go_wp2_with fail
        go_ret
        obtain rfl : k = n := by omega
        have e1 := E1.out; have e2 := E2.out; have hpre' := hpre.out
        refine ⟨ret_of (congrArg Value.bool (sameB_true ?_).symm), _, rfl⟩
        rwa [List.take_of_length_le (by omega), List.take_of_length_le (by omega)] at hpre'
  · have hne : ((n : Int) != (m : Int)) = true := by simp; omega
    have hne' : ((n : Int) == (m : Int)) = false := by simp; omega
    have E1 := Lib.hid e1; have E2 := Lib.hid e2; clear e1 e2
    go_enter Tryd.func11, Tryd.ntmps11
    go_wp2_with fail
    go_ret
    have e1 := E1.out; have e2 := E2.out
    refine ⟨ret_of (congrArg Value.bool (sameB_false ?_).symm), Drawn.refl w⟩
    rintro rfl
    omega

theorem same_true (A A' : Option Addr) (n c m c' : Nat) (l : List Nat) (w : World) (h1 : Reads w w.heap.size 1 A n (bs l)) (h2 : Reads w w.heap.size 1 A' m (bs l)) (hn : n ≤ 140737488355328) :
    Calls Tryd.prog 11 #[.slice A n c, .slice A' m c'] w fun e w' => e = .returned (.bool true) ∧ Drawn w w' :=
  (same_any A A' n c m c' l l w h1 h2 hn).mono fun e w' ⟨he, hw⟩ => ⟨by rw [he, sameB_true rfl], hw⟩
end Go.Proofs.YtkcbmipcgjheoaaDoor

/- Contract of layer 11's awake: the document's example holds. -/
namespace Go.Proofs.YtkcbmipcgjheoaaDoor
open Go.RowKit
set_option linter.unusedVariables false
set_option linter.unusedSimpArgs false
set_option maxRecDepth 100000

theorem dc_ex : dc [7, 5, 7] = [2, 10, 1, 1, 5] := by decide +kernel
theorem ex_in : ∀ z ∈ ([7, 5, 7] : List Int), In64 z := by
  intro z hz
  simp at hz
  unfold In64
  omega
theorem awake_any (w : World) : Calls Tryd.prog 5 #[] w fun e w' => e = .returned (.bool true) ∧ Below w.heap.size w w' := by
  go_enter Tryd.func5, Tryd.ntmps5
  go_wp2_with fail
  refine (dcPut_any (some ⟨w.heap.size, 0, none⟩) 3 3 [7, 5, 7] _ (reads_blk (Blk.new w 2 #[.int .i64 7, .int .i64 5, .int .i64 7]) _ 3 _ (by simp) rfl rfl) ex_in (by omega)).mono ?_
  rw [dc_ex]
  rintro e w1 ⟨v, rfl, hown, hb⟩
  obtain ⟨A, c, rfl, _, _, hr⟩ := own_slice hown
  have hb1 : Below w.heap.size w w1 := ((Below.refl _ _).alloc (Nat.le_refl _) _).trans (hb.mono (by simp))
  clear hown hb
  go_wp2_with fail
  refine (same_true A _ 5 c 5 5 [2, 10, 1, 1, 5] _ ((hr.alloc (Nat.le_refl _) _).more (by simp)) (reads_blk (Blk.new w1 5 #[.int .u8 2, .int .u8 10, .int .u8 1, .int .u8 1, .int .u8 5]) _ 5 _ (by simp) rfl rfl) (by omega)).mono ?_
  rintro e w2 ⟨rfl, hd⟩
  go_wp2_with fail
  go_ret
  exact ⟨rfl, hd.below (hb1.alloc hb1.size _)⟩
end Go.Proofs.YtkcbmipcgjheoaaDoor
