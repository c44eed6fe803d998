import Derived.Test.YtpgdlmnhomnblaaGreatDoorJ15
import Derived.Test.YtpgdlmnhomnblaaGreatDoorJ12
import Derived.Test.YtpgdlmnhomnblaaGreatDoorJ9
import Derived.Test.YtpgdlmnhomnblaaGreatDoorJ6
import Derived.Test.YtpgdlmnhomnblaaGreatDoorJ7
import Derived.Deep.RegionWith
import Derived.Test.YtpgdlmnhomnblaaGreatDoorJ10
import Derived.Test.YtpgdlmnhomnblaaGreatDoorJ14
import Derived.Test.YtpgdlmnhomnblaaGreatDoorJ5
import Derived.Test.YtpgdlmnhomnblaaGreatDoorJ13
import Derived.Shelf.SlicesG.CompactS
import Derived.Ground.SlgnProg
import Derived.Test.YtpgdlmnhomnblaaGreatDoorProg
import Derived.Lib.SlicesCompact
import Derived.Sort.Walk0
namespace Go.Proofs.YtpgdlmnhomnblaaGreatDoor
open Go.RowKit
set_option linter.unusedVariables false
set_option linter.unusedSimpArgs false
set_option maxRecDepth 100000
set_option maxHeartbeats 1000000 in
theorem pcPutI_any (A : Option Addr) (n c bc : Nat) (xs : List Value) (P : List Nat) (w : World) (hr : Reads w w.heap.size 1 A n xs) (hP : P.length = n) (h16 : ∀ a ∈ P, a < 65536) (hn : n ≤ 65536)
    (hf : ∀ (k p : Nat) (x : Value) (W : World), xs[k]? = some x → P[k]? = some p → Below w.heap.size w W →
      Calls Tryz.prog 127 #[x, .pointer (some ⟨bc, 0, none⟩)] W fun e W' => e = .returned (.int .u64 (p : Int)) ∧ Below W.heap.size W W') :
    Calls Tryz.prog 126 #[.slice A n c, .func (.func 127) #[] #[.pointer (some ⟨bc, 0, none⟩)]] w (New w (bs (pcB P)) (pcB P).length) := by
  have hpl : (us P).length = n := by rw [us_length, hP]
  have hmk := fun W => run_make_u64 n n (Nat.le_refl _) (by omega) W
  rw [← fillW_zero (us P) (.int .u64 0) n hpl] at hmk
  have hw16 : wd P ≤ 16 := (wd_le P 16).2 fun a ha => by have := h16 a ha; simpa using this
  have HPL := Lib.hid hpl; have HF := Lib.hid hf; have HP := Lib.hid hP
  have H64 := Lib.hid (fun a (ha : a ∈ P) => (show a < 18446744073709551616 by have := h16 a ha; omega))
  have HD := Lib.hid (pcB_flat P)
  have hF0 := Blk.new w 131 (fillW (us P) (.int .u64 0) 0)
  have hb0 : Below w.heap.size w (w.alloc (.cells (fillW (us P) (.int .u64 0) 0) 131)) := (Below.refl _ _).alloc (Nat.le_refl _) _
  obtain ⟨K, hK⟩ : ∃ K, K = wd P := ⟨_, rfl⟩
  rw [← hK] at hw16 HD
  have hsz : (packB K P).length ≤ 131073 := by
    rw [packB_length, hP]
    have h8 : n * K ≤ 65536 * 16 := Nat.mul_le_mul hn hw16
    unfold sz
    omega
  have HK := Lib.hid hK
  clear hpl hf hP h16 hK
  go_enter Tryz.func126, Tryz.ntmps126
  go_wp2_with fail
  clear hmk
  go_loopw [16] (fun s16 wr => ∃ k : Nat, k ≤ n ∧ s16 = .int .i64 (k : Int) ∧ Blk wr w.heap.size 131 (fillW (us P) (.int .u64 0) k) ∧ Below w.heap.size w wr) (fun i _ => n - (intOf i).toNat)
  case atStart => exact ⟨0, by omega, rfl, hF0, hb0⟩
  case round =>
    clear hF0 hb0
    obtain ⟨k, hk, rfl, hF, hb⟩ := hrel
    by_cases hlt : k < n
    · obtain ⟨ad, x, rfl, _, hx, hc0⟩ := (hr.below hb).at_ hlt
      obtain ⟨p, hp⟩ : ∃ p, P[k]? = some p := ⟨_, List.getElem?_eq_getElem (by rw [HP.out]; exact hlt)⟩
      have HC := Lib.hid (HF.out k p x wr hx hp hb)
      have HV := Lib.hid (us_get hp)
      have hFl := hF.lt
      clear hx hp
      go_wp2_with fail
      refine HC.out.mono ?_
      rintro e w2 ⟨rfl, hb2⟩
      have hF2 := hF.below hb2 hFl
      have hb02 := hb.trans (hb2.mono hb.size)
      have hc := hF2.cell k
      rw [fillW_old _ _ k (by rw [HPL.out]; omega)] at hc
      have hf := hF2.frozen k
      clear hF hb hb2 hc0
      go_wp2_with fail
      go_round
      case rel =>
        refine ⟨k + 1, by omega, by go_num, ?_, hb02.setCell (Nat.le_refl _) _⟩
        have h1 := hF2.set_ k (.int .u64 (p : Int))
        rw [fillW_next _ _ k _ HV.out] at h1
        exact h1
      case measure => simp [intOf]; omega
    · obtain rfl : k = n := by omega
      rw [fillW_all _ _ k HPL.out] at hF
      have rP : Reads wr wr.heap.size 1 (some ⟨w.heap.size, 0, none⟩) k (us P) := reads_blk hF _ k _ hF.lt HPL.out (by simp; rw [List.take_of_length_le (by rw [HPL.out]; exact Nat.le_refl _)])
      clear hF
      go_wp2_with fail
      refine (width_any _ k k P wr rP H64.out (by omega)).mono ?_
      rintro e w' ⟨rfl, rfl⟩
      rw [← HK.out]
      go_wp2_with fail
      refine (pack_ok _ k k P _ K rfl wr rP H64.out (by omega) (by omega) (by rw [HK.out]; exact Nat.le_refl _)).mono ?_
      rintro e w3 ⟨v3, rfl, hown3, hb3⟩
      obtain ⟨A3, c3, rfl, _, _, r3⟩ := own_slice hown3
      have hb03 := hb.trans (hb3.mono hb.size)
      have hba : Below w3.heap.size w3 (w3.alloc (.cells #[.int .u8 (K : Int)] 5)) := (Below.refl _ _).alloc (Nat.le_refl _) _
      have i2 : IsB (w3.alloc (.cells #[.int .u8 (K : Int)] 5)) (.slice (some ⟨w3.heap.size, 0, none⟩) 1 1) [K] := ⟨_, 1, rfl, reads_blk (Blk.new w3 _ _) _ 1 _ (by simp) rfl rfl⟩
      have i3 : IsB (w3.alloc (.cells #[.int .u8 (K : Int)] 5)) (.slice A3 (packB K P).length c3) (packB K P) := ⟨A3, c3, rfl, r3.next hba⟩
      have hb04 := hb03.trans (hba.mono hb03.size)
      have h3 := two_parts _ 66 _ _ [K] (packB K P) i2 i3
      rw [show (w3.alloc (.cells #[.int .u8 (K : Int)] 5)).heap.size = w3.heap.size + 1 by simp] at h3
      clear hown3 r3 hb3 rP
      go_wp2_with fail
      refine (concat_any (some ⟨w3.heap.size + 1, 0, none⟩) 2 2 [[K], packB K P] _ h3 rfl (by omega) (by simp; omega)).mono ?_
      rintro e w6 ⟨v, rfl, hown, hb6⟩
      have hb5 := hb04.alloc hb04.size (.cells #[.slice (some ⟨w3.heap.size, 0, none⟩) 1 1, .slice A3 (packB K P).length c3] 66)
      rw [HD.out] at hown
      go_wp2_with fail
      go_ret
      exact ⟨v, rfl, own_base hown hb5.size, hb5.trans (hb6.mono hb5.size)⟩
end Go.Proofs.YtpgdlmnhomnblaaGreatDoor
namespace Go.Proofs.YtpgdlmnhomnblaaGreatDoor
open Go.RowKit Go.Maps
set_option linter.unusedVariables false
set_option linter.unusedSimpArgs false
set_option maxRecDepth 100000
theorem MapAt.below {w w' : World} {b m : Nat} {D : DataW Unit} (h : MapAt w b m D) (hb : Below w.heap.size w w') : MapAt w' b m D := by
  have hlt := World.ownsMap.lt h
  obtain ⟨es, clock, h1, r⟩ := h
  exact ⟨es, clock, (hb.block b hlt).trans h1, r⟩
theorem place_of (bc b m : Nat) (D : DataW Unit) (L : List Int) (z : Int) (W : World) (hc : W.cell? ⟨bc, 0, none⟩ = some (.map (some b))) (hmap : MapAt W b m D) (hat : AtD D L L.length) (hzin : In64 z) (hmem : z ∈ L) :
    Calls Tryz.prog 127 #[.int .i64 z, .pointer (some ⟨bc, 0, none⟩)] W fun e W' => e = .returned (.int .u64 (posD L z : Int)) ∧ W = W' := by
  have HKEY := Lib.hid (key_in hzin)
  have HVAL := Lib.hid (hat (posD L z) z (posD_lt hmem) (posD_at hmem))
  clear hat hmem
  go_enter Tryz.func127, Tryz.ntmps127
  go_wp2_with (first | (at_lookup; refine wpList_lookup_own_int _ rfl _ _ 165 rfl 2 131 .u64 law_i64 Tryz.underlying165 Tryz.underlying131 (zero_u64 _) b m D rfl hmap _ _ rfl HKEY.out ?_; intro cv hat hwc) | fail)
  go_ret
  have hcv : (Value.int .u64 cv) = .int .u64 (posD L z : Int) := by
    have := hat.symm.trans HVAL.out
    injection this with this
    injection this with _ this
    rw [this]
  exact ⟨by rw [hcv]; rfl, rfl⟩
theorem dc_pcB (l : List Int) : dc l = hdD (lstD l) ++ pcB (plcD l) := by unfold dc pcB; simp
set_option maxHeartbeats 1000000 in
theorem dcPut_any (A : Option Addr) (n c : Nat) (l : List Int) (w : World) (hr : Reads w w.heap.size 1 A n (zs l)) (hl : ∀ x ∈ l, In64 x) (hn : n ≤ 65536) :
    Calls Tryz.prog 81 #[.slice A n c] w (NewE w (dc l) 0) := by
  obtain ⟨i0, hi0, hz0, hz1, hz2⟩ := info_parts info_u8
  have e1 : l.length = n := by have := hr.1; rw [zs_length] at this; omega
  have hdp := dc_parts l (by omega)
  have hll := lstD_length l
  rw [e1] at hll
  have HPA := Lib.hid (fun a (ha : a ∈ plcD l) => (show a < 65536 by have := plcD_lt l a ha; omega))
  have HPL : Hid ((plcD l).length = n) := Lib.hid (by rw [plcD_length, e1])
  have HD := Lib.hid (dc_pcB l)
  have hpc : (pcB (plcD l)).length ≤ 131074 := by unfold pcB; rw [List.length_cons]; omega
  have HRI := Lib.hid (lstD_rise l)
  have HLI := Lib.hid (lstD_in hl)
  have HMEM := Lib.hid (fun (k p : Nat) (x : Value) (h1 : (zs l)[k]? = some x) (h2 : (plcD l)[k]? = some p) => (show ∃ z, x = .int .i64 z ∧ In64 z ∧ z ∈ lstD l ∧ p = posD (lstD l) z by
    obtain ⟨z, hz, rfl⟩ := zs_at h1
    refine ⟨z, rfl, hl z (List.mem_of_getElem? hz), (lstD_mem l z).2 (List.mem_of_getElem? hz), ?_⟩
    unfold plcD at h2
    rw [List.getElem?_map, hz] at h2
    injection h2 with h2
    exact h2.symm))
  have d1 : decide ((65536 : Int) < (n : Int)) = false := by simp; omega
  have hmf' := hmfP
  obtain ⟨L, hL⟩ : ∃ L, L = lstD l := ⟨_, rfl⟩
  obtain ⟨P, hP⟩ : ∃ P, P = plcD l := ⟨_, rfl⟩
  have hla := listed_any A n c l w hr hl (by omega)
  unfold Listed at hla
  rw [← hL] at hla hll HRI HLI HD HMEM hdp
  rw [← hP] at HPA HPL HD hpc HMEM
  have HLA := Lib.hid hla
  have hr' := hr
  clear e1 hL hP hla hl hr
  go_enter Tryz.func81, Tryz.ntmps81
  go_wp2_with fail
  refine HLA.out.mono ?_
  rintro e w1 ⟨v1, b, m, D, rfl, hown1, hmap1, hat1, hb1⟩
  have HAT := Lib.hid hat1
  obtain ⟨A1, c1, rfl, hc1, hm1, r1⟩ := own_slice hown1
  have hba : Below w1.heap.size w1 (w1.alloc (.cells #[.map (some b)] 165)) := (Below.refl _ _).alloc (Nat.le_refl _) _
  obtain ⟨W, hW⟩ : ∃ W, W = w1.alloc (.cells #[.map (some b)] 165) := ⟨_, rfl⟩
  have hWs : W.heap.size = w1.heap.size + 1 := by rw [hW]; simp
  have hcW : W.cell? ⟨w1.heap.size, 0, none⟩ = some (.map (some b)) := by rw [hW]; simp
  rw [← hW] at hba
  have hbW := hb1.trans (hba.mono hb1.size)
  have HP := Lib.hid (pcPutI_any A n c w1.heap.size (zs l) P W ((hr'.below hb1).more hb1.size |>.next hba) HPL.out HPA.out hn fun k p x W' h1 h2 hb => by
    obtain ⟨z, rfl, h3, h4, rfl⟩ := HMEM.out k p x h1 h2
    refine (place_of w1.heap.size b m D L z W' ((hb.cell (p := ⟨w1.heap.size, 0, none⟩) (by show w1.heap.size < _; omega)).trans hcW) ((hmap1.below hba).below hb) HAT.out h3 h4).mono ?_
    rintro e w' ⟨rfl, rfl⟩
    exact ⟨rfl, Below.refl _ _⟩)
  have HW := Lib.hid hW
  clear hat1 hmap1 hown1 hcW HMEM hW
  go_wp2_with fail
  rw [← HW.out]
  refine HP.out.mono ?_
  intro e w2 hN2
  obtain ⟨A2, c2, rfl, _, r2, hb2⟩ := hN2.opened
  have hb02 := hbW.trans (hb2.mono hbW.size)
  have r12 := (r1.next hba).next hb2
  clear hN2 r1 hba hb2
  go_wp2_with fail
  refine (putL_any A1 L.length c1 L w2 r12 HRI.out HLI.out (by omega)).mono ?_
  rintro e w4 ⟨v4, rfl, hown4, hb4⟩
  have r24 := r2.next hb4
  have hb04 := hb02.trans (hb4.mono hb02.size)
  have h24 := hb4.size
  clear r12 r2 hb4
  go_wp2_with (at_builtin
               refine wpList_append_any _ rfl (.tmp 19) (.tmp 20) _ rfl w2.heap.size 5 i0 _ 1 1 Tryz.underlying66 hi0 hz0 hz1 hz2 rfl (by omega) v4 (hdD L).length (bs (hdD L)) rfl
                 hown4 w4.heap.size A2 (pcB P).length c2 (bs (pcB P)) rfl r24 (bs_one _) (by unfold maxLen; omega) (by omega) h24 ?_
               intro v5 w5 hown5 hg5 hat5)
  go_ret2
  rw [HD.out]
  rw [← bs_append, ← List.length_append] at hown5
  exact ⟨v5, rfl, own_base hown5 hb02.size, hb04.grown hg5 hb04.size (fun k hk => by have := (hown4.lt k hk).1; have := hb02.size; omega)⟩
end Go.Proofs.YtpgdlmnhomnblaaGreatDoor
namespace Go.Proofs.YtpgdlmnhomnblaaGreatDoor
open Go.RowKit
set_option linter.unusedVariables false
set_option linter.unusedSimpArgs false
set_option maxRecDepth 100000
set_option maxHeartbeats 1000000 in
theorem lit_delta (A : Option Addr) (n c g1 g2 : Nat) (o : List Vl) (w : World) (hr : Reads w w.heap.size 3 A n (vs o)) (hn : n ≤ 65536) (hi : ∀ z ∈ nums o, In64 z) (h1 : FnAt w g1 79) (h2 : FnAt w g2 75) :
    Calls Tryz.prog 106 #[.slice A n c, .pointer (some ⟨g1, 0, none⟩), .pointer (some ⟨g2, 0, none⟩)] w (NewE w (dl (nums o)) 0) := by
  have HF := Lib.hid fun (A1 : Option Addr) (c1 : Nat) (W : World) (r : Reads W W.heap.size 1 A1 n (zs (nums o))) => dlPut_any A1 n c1 _ W r hi hn
  obtain ⟨B, hB⟩ : ∃ B, dl (nums o) = B := ⟨_, rfl⟩
  rw [hB] at HF ⊢
  have HF1 := Lib.hid h1
  have HE := Lib.hid (eachN_any A n c o w.drew hr.drew hn)
  have c1 : w.cell? ⟨g1, 0, none⟩ = some (.func (.func 79) #[] #[]) := h1
  have c2 : w.cell? ⟨g2, 0, none⟩ = some (.func (.func 75) #[] #[]) := h2
  clear h1 h2 hB
  go_enter Tryz.func106, Tryz.ntmps106
  go_wp2_with fail
  go_region_with (first
    | (go_at_call 107; refine HE.out.mono ?_; rintro e w1 ⟨v, rfl, hown, hb⟩; obtain ⟨A1, c1', rfl, _, _, r1⟩ := own_slice hown; have c11 : w1.cell? ⟨g1, 0, none⟩ = some (.func (.func 79) #[] #[]) := FnAt.below (w := w.drew) HF1.out hb)
    | (go_at_call 79; refine (HF.out _ _ _ r1).mono ?_; rintro e w2 ⟨v2, rfl, hown2, hb2⟩))
  all_goals
    go_wp2_with fail
    go_ret2
    exact ⟨_, rfl, own_base hown2 hb.size, (Drawn.one w 1).below (Below.refl w.heap.size w) |>.trans (hb.trans (hb2.mono hb.size))⟩
set_option maxHeartbeats 1000000 in
theorem lit_dict (A : Option Addr) (n c g1 g2 : Nat) (o : List Vl) (w : World) (hr : Reads w w.heap.size 3 A n (vs o)) (hn : n ≤ 65536) (hi : ∀ z ∈ nums o, In64 z) (h1 : FnAt w g1 81) (h2 : FnAt w g2 75) :
    Calls Tryz.prog 106 #[.slice A n c, .pointer (some ⟨g1, 0, none⟩), .pointer (some ⟨g2, 0, none⟩)] w (NewE w (dc (nums o)) 0) := by
  have HF := Lib.hid fun (A1 : Option Addr) (c1 : Nat) (W : World) (r : Reads W W.heap.size 1 A1 n (zs (nums o))) => dcPut_any A1 n c1 _ W r hi hn
  obtain ⟨B, hB⟩ : ∃ B, dc (nums o) = B := ⟨_, rfl⟩
  rw [hB] at HF ⊢
  have HF1 := Lib.hid h1
  have HE := Lib.hid (eachN_any A n c o w.drew hr.drew hn)
  have c1 : w.cell? ⟨g1, 0, none⟩ = some (.func (.func 81) #[] #[]) := h1
  have c2 : w.cell? ⟨g2, 0, none⟩ = some (.func (.func 75) #[] #[]) := h2
  clear h1 h2 hB
  go_enter Tryz.func106, Tryz.ntmps106
  go_wp2_with fail
  go_region_with (first
    | (go_at_call 107; refine HE.out.mono ?_; rintro e w1 ⟨v, rfl, hown, hb⟩; obtain ⟨A1, c1', rfl, _, _, r1⟩ := own_slice hown; have c11 : w1.cell? ⟨g1, 0, none⟩ = some (.func (.func 81) #[] #[]) := FnAt.below (w := w.drew) HF1.out hb)
    | (go_at_call 81; refine (HF.out _ _ _ r1).mono ?_; rintro e w2 ⟨v2, rfl, hown2, hb2⟩))
  all_goals
    go_wp2_with fail
    go_ret2
    exact ⟨_, rfl, own_base hown2 hb.size, (Drawn.one w 1).below (Below.refl w.heap.size w) |>.trans (hb.trans (hb2.mono hb.size))⟩
end Go.Proofs.YtpgdlmnhomnblaaGreatDoor
namespace Go.Proofs.YtpgdlmnhomnblaaGreatDoor
open Go.RowKit
set_option linter.unusedVariables false
set_option linter.unusedSimpArgs false
theorem dist_eq {y z : Int} (hy : In64 y) (hz : In64 z) (h : y ≤ z) : IntKind.u64.wrap (IntKind.u64.wrap z - IntKind.u64.wrap y) = ((z - y).toNat : Int) := by
  rw [u64w, u64w, u64w]
  unfold In64 at hy hz
  omega
end Go.Proofs.YtpgdlmnhomnblaaGreatDoor
namespace Go.Proofs.YtpgdlmnhomnblaaGreatDoor
open Go.RowKit
set_option linter.unusedVariables false
set_option linter.unusedSimpArgs false
set_option maxRecDepth 100000
theorem dist_any (y z : Int) (w : World) (hy : In64 y) (hz : In64 z) (h : y ≤ z) :
    Calls Tryz.prog 132 #[.int .i64 y, .int .i64 z] w fun e w' => e = .returned (.int .u64 ((z - y).toNat : Int)) ∧ w = w' := by
  have HD := Lib.hid (dist_eq hy hz h)
  go_enter Tryz.func132, Tryz.ntmps132
  go_wp2_with fail
  go_ret
  exact ⟨by rw [HD.out]; rfl, rfl⟩
set_option maxHeartbeats 1000000 in
theorem min_any (A : Option Addr) (n c : Nat) (l : List Int) (w : World) (hr : Reads w w.heap.size 1 A n (zs l)) (hl : ∀ z ∈ l, In64 z) (h0 : 0 < n) (hn : n ≤ 140737488355328) :
    Calls Tryz.prog 131 #[.slice A n c] w fun e w' => e = .returned (.int .i64 (ls l)) ∧ w = w' := by
  have e1 : l.length = n := by have := hr.1; rw [zs_length] at this; omega
  obtain ⟨ad, u, rfl, _, hu, hc⟩ := hr.at_ h0
  obtain ⟨z0, hz0, rfl⟩ := zs_at hu
  have hc0 : w.cell? ad = some (.int .i64 z0) := by simpa [Addr.add] using hc
  have E1 := Lib.hid e1; have HF := Lib.hid (ls_first hz0)
  have d1 : decide ((n : Int) < 1) = false := by simp; omega
  clear e1 hu hc hz0
  go_enter Tryz.func131, Tryz.ntmps131
  go_wp2_with fail
  go_loop [3, 4] (fun s3 s4 => ∃ (k : Nat) (m : Int), 1 ≤ k ∧ k ≤ n ∧ s4 = .int .i64 (k : Int) ∧ s3 = .int .i64 m ∧ Hid (m = ls (l.take k))) (fun _ i => n - (intOf i).toNat)
  case atStart => exact ⟨1, z0, Nat.le_refl _, by omega, rfl, rfl, Lib.hid HF.out.symm⟩
  case round =>
    obtain ⟨k, m, hk1, hk, rfl, rfl, hm⟩ := hrel
    by_cases hlt : k < n
    · obtain ⟨ad', u, e', _, hu, hc⟩ := hr.at_ hlt
      injection e' with e'
      subst e'
      obtain ⟨z, hz, rfl⟩ := zs_at hu
      have HS := Lib.hid (ls_step (by omega) hz)
      clear hu hz
      go_wp2_with fail
      go_round
      case rel =>
        refine ⟨k + 1, _, by omega, by omega, by go_num, rfl, Lib.hid ?_⟩
        rw [HS.out, ← hm.out]
        first
          | done
          | (by_cases hz : z < m
             · rw [if_pos hz]; omega
             · rw [if_neg hz]; omega)
      case measure => simp [intOf]; omega
    · obtain rfl : k = n := by omega
      go_wp2_with fail
      go_ret
      refine ⟨?_, rfl⟩
      rw [hm.out, List.take_of_length_le (by rw [E1.out]; exact Nat.le_refl _)]
      rfl
end Go.Proofs.YtpgdlmnhomnblaaGreatDoor
namespace Go.Proofs.YtpgdlmnhomnblaaGreatDoor
open Go.RowKit
set_option linter.unusedVariables false
set_option linter.unusedSimpArgs false
set_option maxRecDepth 100000
theorem foPut_nil (A : Option Addr) (c : Nat) (w : World) :
    Calls Tryz.prog 83 #[.slice A 0 c] w (NewE w (fo []) 0) := by
  go_enter Tryz.func83, Tryz.ntmps83
  go_wp2_with fail
  go_ret2
  exact ⟨.slice none 0 0, rfl, own_nil _ _ _ _, Below.refl _ _⟩
set_option maxHeartbeats 2000000 in
theorem foPut_main (A : Option Addr) (n c : Nat) (l : List Int) (w : World) (hr : Reads w w.heap.size 1 A n (zs l)) (hl : ∀ x ∈ l, In64 x) (h0 : 0 < n) (hn : n ≤ 65536) :
    Calls Tryz.prog 83 #[.slice A n c] w (NewE w (fo l) 0) := by
  have e1 : l.length = n := by have := hr.1; rw [zs_length] at this; omega
  have hne : l ≠ [] := by intro e; subst e; simp at e1; omega
  have hm64 := ls_in hl
  have hvl := vb_length (zg (ls l))
  have hzg := (zg_int hm64).2
  have hD64 := dfs_lt hl hm64
  have hK64 := wd_dfs hl
  have hle := fun z (hz : z ∈ l) => ls_le (l := l) z hz
  have hDl := dfs_length (ls l) l
  have hpl : (packB (wd (dfs (ls l) l)) (dfs (ls l) l)).length ≤ 524290 := by have := foB_length hl (by omega); unfold foB at this; rw [List.length_append] at this; omega
  have hfo : fo l = [vb (zg (ls l)), [wd (dfs (ls l) l)], packB (wd (dfs (ls l) l)) (dfs (ls l) l)].flatten := by rw [fo_ne hne]; unfold foB; simp
  have hmin := min_any A n c l w hr hl h0 (by omega)
  have hstep := fun (k : Nat) (z : Int) (h : l[k]? = some z) => us_get (dfs_at (m := ls l) h)
  obtain ⟨m, hm⟩ : ∃ m, m = ls l := ⟨_, rfl⟩
  rw [← hm] at hm64 hvl hzg hD64 hK64 hle hDl hpl hfo hmin hstep
  obtain ⟨D, hD⟩ : ∃ D, D = dfs m l := ⟨_, rfl⟩
  rw [← hD] at hD64 hK64 hDl hpl hfo hstep
  obtain ⟨K, hK⟩ : ∃ K, K = wd D := ⟨_, rfl⟩
  rw [← hK] at hK64 hpl hfo
  have hXz : (us D).length = n := by rw [us_length, hDl, e1]
  have hmk := fun W => run_make_u64 n n (Nat.le_refl _) (by omega) W
  rw [← fillW_zero (us D) (.int .u64 0) n hXz] at hmk
  have hF0 := Blk.new w 131 (fillW (us D) (.int .u64 0) 0)
  have hb0 : Below w.heap.size w (w.alloc (.cells (fillW (us D) (.int .u64 0) 0) 131)) := (Below.refl _ _).alloc (Nat.le_refl _) _
  have HK := Lib.hid hK; have HL := Lib.hid hl; have HLT := Lib.hid hD64; have HD := Lib.hid hfo; have HM := Lib.hid hmin; have HS := Lib.hid hstep; have HLE := Lib.hid hle; have HX := Lib.hid hXz
  have q0 : ((n : Int) == 0) = false := by simp; omega
  clear hK hl hD64 hfo hmin hstep hle hXz hD hm hDl e1
  go_enter Tryz.func83, Tryz.ntmps83
  go_wp2_with fail
  refine HM.out.mono ?_
  rintro e w' ⟨rfl, rfl⟩
  go_wp2_with fail
  clear hmk
  go_loopw [24] (fun s24 wr => ∃ k : Nat, k ≤ n ∧ s24 = .int .i64 (k : Int) ∧ Blk wr w.heap.size 131 (fillW (us D) (.int .u64 0) k) ∧ Below w.heap.size w wr) (fun i _ => n - (intOf i).toNat)
  case atStart => exact ⟨0, by omega, rfl, hF0, hb0⟩
  case round =>
    clear hF0 hb0
    obtain ⟨k, hk, rfl, hF, hb⟩ := hrel
    by_cases hlt : k < n
    · obtain ⟨ad, u, rfl, _, hu, hc0⟩ := (hr.below hb).at_ hlt
      obtain ⟨z, hz, rfl⟩ := zs_at hu
      have hz64 := HL.out z (List.mem_of_getElem? hz)
      have hmz := HLE.out z (List.mem_of_getElem? hz)
      have hc := hF.cell k
      rw [fillW_old _ _ k (by rw [HX.out]; omega)] at hc
      have hf := hF.frozen k
      have HZ := Lib.hid (HS.out k z hz)
      clear hu hz
      have hdi := dist_any m z wr hm64 hz64 hmz
      obtain ⟨q, hq⟩ : ∃ q, q = (z - m).toNat := ⟨_, rfl⟩
      rw [← hq] at hdi HZ
      have HDI := Lib.hid hdi
      clear hdi hq hmz
      go_wp2_with fail
      refine HDI.out.mono ?_
      rintro e w' ⟨rfl, rfl⟩
      go_wp2_with fail
      go_round
      case rel =>
        refine ⟨k + 1, by omega, by go_num, ?_, hb.setCell (Nat.le_refl _) _⟩
        have h1 := hF.set_ k (.int .u64 (q : Int))
        rw [fillW_next _ _ k _ HZ.out] at h1
        exact h1
      case measure => simp [intOf]; omega
    · obtain rfl : k = n := by omega
      rw [fillW_all _ _ k HX.out] at hF
      have r1 : Reads wr wr.heap.size 1 (some ⟨w.heap.size, 0, none⟩) k (us D) := reads_blk hF _ k _ hF.lt HX.out (by rw [List.take_of_length_le (by have := HX.out; simp; omega)])
      clear hF hr
      go_wp2_with fail
      refine (width_any _ k k D wr r1 HLT.out (by omega)).mono ?_
      rintro e w' ⟨rfl, rfl⟩
      rw [← HK.out]
      go_wp2_with fail
      refine (pack_ok _ k k D _ K rfl wr r1 HLT.out (by omega) hK64 (by rw [HK.out]; exact Nat.le_refl _)).mono ?_
      rintro e w3 ⟨v3, rfl, hown3, hb3⟩
      obtain ⟨A3, c3, rfl, _, _, r3⟩ := own_slice hown3
      have hb03 := hb.trans (hb3.mono hb.size)
      clear hown3 hb3 r1
      go_wp2_with fail
      refine (zigN_any m _ hm64).mono ?_
      rintro e w' ⟨rfl, rfl⟩
      go_wp2_with fail
      refine (putVar_any none 0 0 (zg m) [] _ hzg Reads.none_ (by simp) (by omega)).mono ?_
      intro e5 w5 hN5
      obtain ⟨A5, c5, rfl, _, hr5, hb5⟩ := hN5.opened
      rw [Nat.zero_add, List.nil_append] at hr5
      simp only [Nat.zero_add]
      have hb05 := hb03.trans (hb5.mono hb03.size)
      have i1 : IsB w5 (.slice A5 (vb (zg m)).length c5) (vb (zg m)) := ⟨A5, c5, rfl, hr5⟩
      have i3 : IsB w5 (.slice A3 (packB K D).length c3) (packB K D) := ⟨A3, c3, rfl, r3.next hb5⟩
      have hba : Below w5.heap.size w5 (w5.alloc (.cells #[.int .u8 (K : Int)] 5)) := (Below.refl _ _).alloc (Nat.le_refl _) _
      have i2 : IsB (w5.alloc (.cells #[.int .u8 (K : Int)] 5)) (.slice (some ⟨w5.heap.size, 0, none⟩) 1 1) [K] := ⟨_, 1, rfl, reads_blk (Blk.new w5 _ _) _ 1 _ (by simp) rfl rfl⟩
      have hb06 := hb05.trans (hba.mono hb05.size)
      have h3 := three_parts _ 66 _ _ _ (vb (zg m)) [K] (packB K D) (i1.next hba) i2 (i3.next hba)
      have hsz : (w5.alloc (.cells #[.int .u8 (K : Int)] 5)).heap.size = w5.heap.size + 1 := by simp
      rw [hsz] at h3
      clear hN5 i1 i2 i3 r3
      go_wp2_with fail
      refine (concat_any (some ⟨w5.heap.size + 1, 0, none⟩) 3 3 [vb (zg m), [K], packB K D] _ h3 rfl (by omega) (by simp; omega)).mono ?_
      rintro e w6 ⟨v, rfl, hown, hb⟩
      go_wp2_with fail
      go_ret2
      have hb7 := hb06.alloc hb06.size (.cells #[.slice A5 (vb (zg m)).length c5, .slice (some ⟨w5.heap.size, 0, none⟩) 1 1, .slice A3 (packB K D).length c3] 66)
      rw [HD.out]
      exact ⟨v, rfl, own_base hown hb7.size, hb7.trans (hb.mono hb7.size)⟩
theorem foPut_any (A : Option Addr) (n c : Nat) (l : List Int) (w : World) (hr : Reads w w.heap.size 1 A n (zs l)) (hl : ∀ x ∈ l, In64 x) (hn : n ≤ 65536) :
    Calls Tryz.prog 83 #[.slice A n c] w (NewE w (fo l) 0) := by
  have e1 : l.length = n := by have := hr.1; rw [zs_length] at this; omega
  rcases Nat.eq_zero_or_pos n with h0 | h0
  · subst h0
    rw [List.eq_nil_of_length_eq_zero e1]
    exact foPut_nil A c w
  · exact foPut_main A n c l w hr hl h0 hn
end Go.Proofs.YtpgdlmnhomnblaaGreatDoor
namespace Go.Proofs.YtpgdlmnhomnblaaGreatDoor
open Go.RowKit Go.Sort Go.Shelf
def co_compact183_ren : Go.Shelf.Ren := ⟨fun | 44 => 183 | n => n, fun | 25 => 175 | 26 => 9 | 3 => 3 | 4 => 4 | 0 => 0 | n => n, fun | n => n⟩
theorem co_compact183 : Go.Proofs.SlLaysN.n44 Tryz.prog co_compact183_ren := {
  mixed := by kernel_rfl
  f44 := ⟨Tryz.f183.name, by decide, Tryz.func183.trans (congrArg some (by kernel_rfl))⟩
  t0 := Tryz.underlying0
  a0 := Tryz.isAgg0
  z0 := Tryz.sizeOf0
  v0 := Tryz.zeroValue0
  t3 := Tryz.underlying3
  a3 := Tryz.isAgg3
  z3 := Tryz.sizeOf3
  v3 := Tryz.zeroValue3
  t4 := Tryz.underlying4
  a4 := Tryz.isAgg4
  z4 := Tryz.sizeOf4
  v4 := Tryz.zeroValue4
  t25 := Tryz.underlying175
  a25 := Tryz.isAgg175
  z25 := Tryz.sizeOf175
  v25 := Tryz.zeroValue175
  t26 := Tryz.underlying9
  a26 := Tryz.isAgg9
  z26 := Tryz.sizeOf9
  v26 := Tryz.zeroValue9
  i26 := by kernel_rfl }
theorem compact_row_str (blk off cap : Nat) (ss : List (List UInt8)) (w : World) (hH : Holds encStr w blk off ss.toArray) (hsz : ss.length ≤ 9223372036854775807) (hcap : ss.length ≤ cap) :
    Calls Tryz.prog 183 #[.slice (some ⟨blk, off, none⟩) ss.length cap] w fun e w' => e = .returned (.slice (some ⟨blk, off, none⟩) (Lib.compact ss).length cap) ∧ ∃ q, w' = putRow encStr (Sort.ahead w q) blk off (Lib.compact ss ++ List.replicate (ss.length - (Lib.compact ss).length) []).toArray := AnyG.slices_Compact_string co_compact183 blk off cap ss w hH hsz hcap
theorem compact_none_str (a : Option Addr) (cap : Nat) (w : World) : Calls Tryz.prog 183 #[.slice a 0 cap] w fun e w' => e = .returned (.slice a 0 cap) ∧ w' = w := AnyG.slices_Compact_string_empty co_compact183 a cap w
end Go.Proofs.YtpgdlmnhomnblaaGreatDoor
namespace Go.Proofs.YtpgdlmnhomnblaaGreatDoor
open Go.RowKit Go.Lib
set_option linter.unusedVariables false
set_option linter.unusedSimpArgs false
theorem tlt_iff (a b : Tx) : tlt a b ↔ a < b := by unfold tlt; rw [bytesLess_eq]; simp
theorem tle_trans {a b c : Tx} (h1 : ¬ tlt b a) (h2 : ¬ tlt c b) : ¬ tlt c a := by
  intro h
  by_cases e : b = a
  · subst e; exact h2 h
  · exact h2 (tlt_trans h (tlt_total h1 e))
def SortT (d : Array Tx) : Prop := ∀ i j, i ≤ j → j < d.size → ¬ tlt d[j]! d[i]!
theorem compactUpTo_rise (d : Array Tx) (hs : SortT d) : ∀ m, m ≤ d.size → RiseT (compactUpTo d m) ∧ ∀ x, x ∈ compactUpTo d m ↔ ∃ i, i < m ∧ d[i]! = x := by
  intro m
  induction m with
  | zero => intro _; exact ⟨by simp [compactUpTo, RiseT], fun x => by simp [compactUpTo]⟩
  | succ m ih =>
    intro hm
    obtain ⟨i1, i2⟩ := ih (by omega)
    rw [compactUpTo_succ]
    cases hk : keeps d m with
    | false =>
      have h0 : m ≠ 0 ∧ d[m]! = d[m - 1]! := by simpa [keeps] using hk
      simp only [Bool.false_eq_true, if_false, List.append_nil]
      refine ⟨i1, fun x => ?_⟩
      rw [i2]
      constructor
      · rintro ⟨i, hi, e⟩; exact ⟨i, by omega, e⟩
      · rintro ⟨i, hi, e⟩
        by_cases him : i = m
        · subst him; exact ⟨i - 1, by omega, by rw [← h0.2, e]⟩
        · exact ⟨i, by omega, e⟩
    | true =>
      have h0 : m = 0 ∨ ¬ d[m]! = d[m - 1]! := by simpa [keeps] using hk
      simp only [if_true]
      refine ⟨?_, fun x => ?_⟩
      · unfold RiseT
        rw [List.pairwise_append]
        refine ⟨i1, by simp, ?_⟩
        intro x hx y hy
        rw [List.mem_singleton] at hy
        subst hy
        obtain ⟨i, hi, rfl⟩ := (i2 x).1 hx
        have hne : ¬ d[m]! = d[i]! := by
          intro e
          rcases h0 with h0 | h0
          · omega
          · have a1 := hs (m - 1) m (by omega) (by omega)
            have a2 := hs i (m - 1) (by omega) (by omega)
            rw [← e] at a2
            exact h0 (Classical.not_not.1 fun h => a2 (tlt_total a1 h))
        exact tlt_total (hs i m (by omega) (by omega)) hne
      · rw [List.mem_append, i2, List.mem_singleton]
        constructor
        · rintro (⟨i, hi, e⟩ | e)
          · exact ⟨i, by omega, e⟩
          · exact ⟨m, by omega, e.symm⟩
        · rintro ⟨i, hi, e⟩
          by_cases him : i = m
          · subst him; exact .inr e.symm
          · exact .inl ⟨i, by omega, e⟩
theorem compact_sort (l : List Tx) : Lib.compact (l.mergeSort fun x y => decide (x ≤ y)) = lstT l := by
  obtain ⟨s, hs⟩ : ∃ s, s = l.mergeSort fun x y => decide (x ≤ y) := ⟨_, rfl⟩
  have hle : ∀ a b : Tx, decide (a ≤ b) = true ↔ ¬ tlt b a := fun a b => by rw [decide_eq_true_iff, tlt_iff]; exact Iff.rfl
  have hp : s.Pairwise (fun a b => decide (a ≤ b) = true) := by
    rw [hs]
    refine List.pairwise_mergeSort (fun a b c h1 h2 => ?_) (fun a b => ?_) l
    · rw [hle] at *; exact tle_trans h1 h2
    · rw [Bool.or_eq_true, hle, hle]
      by_cases h : tlt b a
      · exact .inr (tlt_asymm h)
      · exact .inl h
  have hso : SortT s.toArray := by
    intro i j hij hj
    have hj' : j < s.length := by simpa using hj
    rw [getElem!_pos s.toArray j hj, getElem!_pos s.toArray i (by omega)]
    simp only [List.getElem_toArray]
    rcases Nat.lt_or_eq_of_le hij with h | h
    · exact (hle _ _).1 (List.pairwise_iff_getElem.1 hp i j (by omega) hj' h)
    · subst h; exact tlt_irrefl _
  obtain ⟨h1, h2⟩ := compactUpTo_rise s.toArray hso s.toArray.size (Nat.le_refl _)
  rw [← hs]
  unfold Lib.compact
  have hsz : s.toArray.size = s.length := by simp
  rw [hsz] at h1 h2
  refine riseT_ext _ _ h1 (lstT_rise l) fun x => ?_
  rw [h2, lstT_mem, ← List.mem_mergeSort (le := fun x y => decide (x ≤ y)), ← hs, List.mem_iff_getElem]
  constructor
  · rintro ⟨i, hi, e⟩
    refine ⟨i, hi, ?_⟩
    rw [getElem!_pos s.toArray i (by simpa using hi)] at e
    simpa using e
  · rintro ⟨i, hi, e⟩
    refine ⟨i, hi, ?_⟩
    rw [getElem!_pos s.toArray i (by simpa using hi)]
    simpa using e
end Go.Proofs.YtpgdlmnhomnblaaGreatDoor
