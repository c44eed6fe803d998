/- Texts joined: RefPackF DlRefPut DcRefList DcRefPut FoRefPut. -/
import Derived.Test.YthlfplljbbnaoaaGreatDoorK1
import Derived.Test.YthlfplljbbnaoaaGreatDoorJ18
import Derived.Test.YthlfplljbbnaoaaGreatDoorJ9
import Derived.BigQuiet
import Derived.Test.YthlfplljbbnaoaaGreatDoorJ7
import Derived.Test.YthlfplljbbnaoaaGreatDoorJ14
import Derived.Test.YthlfplljbbnaoaaGreatDoorJ16
import Derived.Deep.RegionLaw
import Derived.Test.YthlfplljbbnaoaaGreatDoorJ17
import Derived.Test.YthlfplljbbnaoaaGreatDoorJ6
import Derived.Test.YthlfplljbbnaoaaGreatDoorJ21
/- The document's Pack where all fits. -/
namespace Go.Proofs.YthlfplljbbnaoaaGreatDoor
open Go.RowKit
set_option linter.unusedVariables false
set_option linter.unusedSimpArgs false
set_option maxRecDepth 100000

theorem refPack_fit (A : Option Addr) (n c : Nat) (l : List Nat) (kI : Int) (k : Nat) (hkI : kI = (k : Int)) (w : World) (hr : Reads w w.heap.size 1 A n (us l)) (hl : ∀ a ∈ l, a < 18446744073709551616) (hn : n ≤ 65536) (hk : k ≤ 64) (hd : wd l ≤ k) :
    Calls Tryz.prog 127 #[.slice A n c, .int .i64 kI] w (NewE w (packB k l) 0) := by
  subst hkI
  have e1 : l.length = n := by have := hr.1; rw [us_length] at this; omega
  have h := refPack_any A n c l (k : Int) w hr hl (by omega) (by omega)
  obtain ⟨h1, h2⟩ := packE_ok l k (by omega) hk hd
  rwa [h1, h2] at h
end Go.Proofs.YthlfplljbbnaoaaGreatDoor

/- The document's form of steps. -/
namespace Go.Proofs.YthlfplljbbnaoaaGreatDoor
open Go.RowKit
set_option linter.unusedVariables false
set_option linter.unusedSimpArgs false
set_option maxRecDepth 100000

theorem refDl_nil (A : Option Addr) (c : Nat) (w : World) (hr : Reads w w.heap.size 1 A 0 (zs [])) :
    Calls Tryz.prog 65 #[.slice A 0 c] w (New w (bs (dl [])) (dl []).length) := by
  go_enter Tryz.func65, Tryz.ntmps65
  go_wp2_with fail
  refine (refSteps_any A 0 c [] w hr (by simp) (Nat.zero_le _) (by omega)).mono ?_
  rintro e w1 ⟨v1, rfl, hown1, hb1⟩
  obtain ⟨A1, c1, rfl, _, _, r1⟩ := own_slice hown1
  go_wp2_with fail
  go_ret
  exact ⟨.slice none 0 0, rfl, own_nil _ _ _ _, hb1⟩
set_option maxHeartbeats 1000000 in
theorem refDl_one (A : Option Addr) (c : Nat) (z : Int) (w : World) (hr : Reads w w.heap.size 1 A 1 (zs [z])) (hz : In64 z) (hc : 1 ≤ c) :
    Calls Tryz.prog 65 #[.slice A 1 c] w (New w (bs (dl [z])) (dl [z]).length) := by
  have hs : stp 0 [z] = [z] := by simp only [stp]; rw [show z - 0 = z by omega, w64_id hz]
  have hzg := (zg_int hz).2
  go_enter Tryz.func65, Tryz.ntmps65
  go_wp2_with fail
  refine (refSteps_any A 1 c [z] w hr (by simpa using hz) hc (by omega)).mono ?_
  rintro e w1 ⟨v1, rfl, hown1, hb1⟩
  rw [hs] at hown1
  obtain ⟨A1, c1, rfl, _, _, r1⟩ := own_slice hown1
  obtain ⟨ad, u, rfl, _, hu, hcl⟩ := r1.at_ (show 0 < 1 by omega)
  have hu' : u = .int .i64 z := by simpa [zs] using hu.symm
  subst hu'
  have hc0 : w1.cell? ad = some (.int .i64 z) := by simpa [Addr.add] using hcl
  clear hu hs hcl
  go_wp2_with fail
  refine (refZigN_any z w1 hz).mono ?_
  rintro e w' ⟨rfl, rfl⟩
  go_wp2_with fail
  refine (refVar_any (zg z) w1 hzg).mono ?_
  rintro e2 w2 ⟨v2, rfl, hown2, hb2⟩
  go_wp2_with fail
  go_ret
  have hd : dl [z] = vb (zg z) := by simp [dl, dl1, dl2, dl3]
  rw [hd]
  exact ⟨_, rfl, own_base hown2 hb1.size, hb1.trans (hb2.mono hb1.size)⟩
set_option maxHeartbeats 2000000 in
theorem refDl_two (A : Option Addr) (n c : Nat) (z y : Int) (r : List Int) (w : World) (hr : Reads w w.heap.size 1 A n (zs (z :: y :: r))) (hl : ∀ x ∈ z :: y :: r, In64 x) (hnc : n ≤ c) (hn : n ≤ 65536) :
    Calls Tryz.prog 65 #[.slice A n c] w (New w (bs (dl (z :: y :: r))) (dl (z :: y :: r)).length) := by
  obtain ⟨i0, hi0, hz0, hz1, hz2⟩ := info_parts info_u8
  obtain ⟨i1, hi1, hy0, hy1, hy2⟩ := info_parts info_u64
  have e1 : n = r.length + 2 := by have := hr.1; rw [zs_length] at this; simp at this; omega
  have hz := hl z (by simp)
  have hzg := (zg_int hz).2
  have hvl := vb_length (zg z)
  have hs0 : (stp 0 (z :: y :: r))[0]? = some z := by simp only [stp]; rw [show z - 0 = z by omega, w64_id hz]; simp
  have hdl := (dl_parts (z :: y :: r)).2.2 (by simp; omega)
  have hdt : dl3 (z :: y :: r) = packB (wd (zb (z :: y :: r))) (zb (z :: y :: r)) := by simp [dl3]
  have hdw : dl2 (z :: y :: r) = [wd (zb (z :: y :: r))] := by simp [dl2]
  have HD : Hid (dl (z :: y :: r) = vb (zg z) ++ dl2 (z :: y :: r) ++ dl3 (z :: y :: r)) := Lib.hid rfl
  have hzl : (zb (z :: y :: r)).length = n - 1 := by rw [zb_length]; simp; omega
  have hsl : (stp 0 (z :: y :: r)).length = n := by rw [stp_length]; simp; omega
  have hin := stp_in (z :: y :: r) 0
  have hw64 := wd_zb (z :: y :: r)
  have hzlt := zb_lt (z :: y :: r)
  have hzb : ((stp 0 (z :: y :: r)).drop 1).map zg = zb (z :: y :: r) := rfl
  rw [hdt] at hdl HD
  rw [hdw] at HD
  obtain ⟨S, hS⟩ : ∃ S, S = stp 0 (z :: y :: r) := ⟨_, rfl⟩
  obtain ⟨Z, hZ⟩ : ∃ Z, Z = zb (z :: y :: r) := ⟨_, rfl⟩
  obtain ⟨K, hK⟩ : ∃ K, K = wd Z := ⟨_, rfl⟩
  have hst := refSteps_any A n c (z :: y :: r) w hr hl hnc hn
  rw [← hS] at hst hs0 hzb hin hsl
  rw [← hZ] at HD hzl hzb hzlt hdl hw64
  rw [← hK] at HD hdl hw64
  have HK := Lib.hid hK; have HZ := Lib.hid hzb; have HIN := Lib.hid hin; have HLT := Lib.hid hzlt; have HST := Lib.hid hst; have HZL := Lib.hid hzl; have HSL := Lib.hid hsl
  have q1 : ((n : Int) == 1) = false := by simp; omega
  have q0 : ((n : Int) == 0) = false := by simp; omega
  have h2n : 2 ≤ n := by omega
  clear hK hzb hin hzlt hst hzl hS hZ hdt hdw e1 hl hr hsl
  go_enter Tryz.func65, Tryz.ntmps65
  go_wp2_with fail
  refine HST.out.mono ?_
  rintro e w1 ⟨v1, rfl, hown1, hb1⟩
  obtain ⟨A1, c1, rfl, hc1, _, r1⟩ := own_slice hown1
  obtain ⟨ad, u, rfl, _, hu, hcl⟩ := r1.at_ (show 0 < n by omega)
  have hu' : u = .int .i64 z := by rw [zs_get hs0] at hu; exact (Option.some.inj hu).symm
  subst hu'
  have hc0 : w1.cell? ad = some (.int .i64 z) := by simpa [Addr.add] using hcl
  clear hu hs0 hcl
  go_wp2_with fail
  refine (refZigN_any z w1 hz).mono ?_
  rintro e w' ⟨rfl, rfl⟩
  go_wp2_with fail
  refine (refVar_any (zg z) w1 hzg).mono ?_
  rintro e2 w2 ⟨v2, rfl, hown2, hb2⟩
  obtain ⟨A2, c2, rfl, _, _, r2⟩ := own_slice hown2
  have r12 := r1.next hb2
  have hb02 := hb1.trans (hb2.mono hb1.size)
  clear hc0 r1 hown1 r2
  go_wp2_with fail
  go_loopw [5, 6] (fun s5 s6 wr => ∃ k j : Nat, k ≤ n ∧ 1 ≤ k ∧ Hid (k = j + 1) ∧ s6 = .int .i64 (k : Int) ∧ wr.ownsRow w2.heap.size 61 1 s5 j (us (Z.take j)) ∧ Below w2.heap.size w2 wr) (fun _ i _ => n - (intOf i).toNat)
  case atStart => exact ⟨1, 0, by omega, Nat.le_refl _, Lib.hid rfl, rfl, own_nil _ _ _ _, Below.refl _ _⟩
  case round =>
    obtain ⟨k, j, hk, hk1, hkj, rfl, hown, hb⟩ := hrel
    have hsz := hb.size
    by_cases hlt : k < n
    · obtain ⟨ad', u, e', _, hu, hc⟩ := (r12.below hb).at_ hlt
      injection e' with e'
      subst e'
      obtain ⟨x, hx, rfl⟩ := zs_at hu
      have hx64 := HIN.out x (List.mem_of_getElem? hx)
      have hxg := (zg_int hx64).2
      have HS : Hid (Z.take (j + 1) = Z.take j ++ [zg x]) := Lib.hid (by
        rw [List.take_add_one, ← HZ.out, List.getElem?_map, List.getElem?_drop, Nat.add_comm 1 j, ← hkj.out, hx]; rfl)
      have hj : j ≤ 65536 := by have := hkj.out; omega
      clear hu hx
      go_wp2_with fail
      refine (refZigN_any x wr hx64).mono ?_
      rintro e w' ⟨rfl, rfl⟩
      go_wp2_with (at_builtin
                   refine wpList_append_any _ rfl (.tmp 30) (.tmp 36) _ rfl w2.heap.size 61 i1 _ 1 8 Tryz.underlying125 hi1 hy0 hy1 hy2 rfl (by omega) u5 j (us (Z.take j)) rfl
                     (hown.alloc _) (wr.heap.size + 1) (some ⟨wr.heap.size, 0, none⟩) 1 1 [.int .u64 (zg x : Int)] rfl (Reads.new wr _ _) (one_int _ _) (by unfold maxLen; omega) (by omega) (by simp; omega) ?_
                   intro v4 w4 hown4 hg4 hat4)
      go_round
      case rel =>
        refine ⟨k + 1, j + 1, by omega, by omega, Lib.hid (by rw [hkj.out]), by go_num, ?_, below_app hb hown hsz hg4⟩
        have h1 := us_snoc [] (Z.take j) (zg x) (zg x : Int) rfl
        simp only [List.nil_append] at h1
        rw [HS.out, ← h1]
        exact hown4
      case measure => simp [intOf]; omega
    · obtain rfl : k = n := by omega
      have hj : j = k - 1 := by have := hkj.out; omega
      rw [List.take_of_length_le (by rw [HZL.out]; omega)] at hown
      subst hj
      obtain ⟨A3, c3, rfl, _, _, r3⟩ := own_slice hown
      have o2 := own_below hown2 hb
      have hb03 := hb02.trans (hb.mono hb02.size)
      clear hkj hown r12
      go_wp2_with fail
      refine (refWidth_any A3 (k - 1) c3 Z wr r3 HLT.out (by omega)).mono ?_
      rintro e w' ⟨rfl, rfl⟩
      rw [← HK.out]
      go_wp2_with fail
      refine (refPack_fit A3 (k - 1) c3 Z _ K rfl wr r3 HLT.out (by omega) (by omega) (by rw [HK.out]; exact Nat.le_refl _)).mono ?_
      rintro e w4 ⟨v4, rfl, hown4, hb4⟩
      obtain ⟨A4, c4, rfl, _, _, _⟩ := own_slice hown4
      have o24 := own_below o2 hb4
      have hb04 := hb03.trans (hb4.mono hb03.size)
      have t2 := hb2.size
      have t3 := hb.size
      have t4 := hb4.size
      have t0 := hb02.size
      have t1 := hb1.size
      have hne : (Value.slice A4 (packB K Z).length c4).ownBlock = none ∨ (Value.slice A4 (packB K Z).length c4).ownBlock ≠ (Value.slice A2 (vb (zg z)).length c2).ownBlock := by
        cases hv : (Value.slice A4 (packB K Z).length c4).ownBlock with
        | none => exact .inl rfl
        | some q =>
          refine .inr fun e => ?_
          have h1 := (hown4.lt q hv).1
          have h2 := (hown2.lt q e.symm).2
          omega
      have hb05 := fun (o : Obj) (w5 : World) (hg : (w4.alloc o).grownBy w5 (Value.slice A2 (vb (zg z)).length c2).ownBlock) => below_app hb04 (own_base o24 t1) (hb04.size) hg
      clear o2 r3
      go_wp2_with (first
        | (at_builtin
           refine wpList_append_any _ rfl (.tmp 46) (.tmp 49) _ rfl w1.heap.size 5 i0 _ 1 1 Tryz.underlying25 hi0 hz0 hz1 hz2 rfl (by omega) (.slice A2 (vb (zg z)).length c2) (vb (zg z)).length (bs (vb (zg z))) rfl
             (o24.alloc _) (w4.heap.size + 1) (some ⟨w4.heap.size, 0, none⟩) 1 1 [.int .u8 (K : Int)] rfl (Reads.new w4 _ _) (one_int _ _) (by unfold maxLen; omega) (by omega) (by simp; omega) ?_
           intro v5 w5 hown5 hg5 hat5
           have o45 := (hown4.alloc (.cells #[.int .u8 (K : Int)] 5)).kept hg5 hne
           have hb5 := hb05 _ _ hg5
           have r4 := Reads.of_own o45)
        | (at_builtin
           refine wpList_append_any _ rfl (.tmp 50) (.tmp 51) _ rfl w1.heap.size 5 i0 _ 1 1 Tryz.underlying25 hi0 hz0 hz1 hz2 rfl (by omega) v5 ((vb (zg z)).length + 1) (bs (vb (zg z)) ++ [.int .u8 (K : Int)]) rfl
             hown5 w5.heap.size A4 (packB K Z).length c4 (bs (packB K Z)) rfl r4 (bs_one _) (by unfold maxLen; omega) (by omega) (by have := hg5.size; simp at this; omega) ?_
           intro v6 w6 hown6 hg6 hat6))
      go_ret
      have hb6 := hb5.grown hg6 hb5.size (fun q hq => by have := (hown5.lt q hq).1; omega)
      have hd : bs (vb (zg z)) ++ [.int .u8 (K : Int)] ++ bs (packB K Z) = bs (dl (z :: y :: r)) := by
        rw [HD.out, bs_append, bs_append]; rfl
      have hdl2 : (vb (zg z)).length + 1 + (packB K Z).length = (dl (z :: y :: r)).length := by
        rw [HD.out, List.length_append, List.length_append]; rfl
      rw [hd, hdl2] at hown6
      exact ⟨v6, rfl, own_base hown6 hb1.size, hb6⟩
theorem refDl_any (A : Option Addr) (n c : Nat) (l : List Int) (w : World) (hr : Reads w w.heap.size 1 A n (zs l)) (hl : ∀ x ∈ l, In64 x) (hnc : n ≤ c) (hn : n ≤ 65536) :
    Calls Tryz.prog 65 #[.slice A n c] w (New w (bs (dl l)) (dl l).length) := by
  have e1 : n = l.length := by have := hr.1; rw [zs_length] at this; omega
  match l, hr, hl, e1 with
  | [], hr, _, e1 => subst e1; exact refDl_nil A c w hr
  | [z], hr, hl, e1 => subst e1; exact refDl_one A c z w hr (hl z (by simp)) hnc
  | z :: y :: r, hr, hl, _ => exact refDl_two A n c z y r w hr hl hnc hn
end Go.Proofs.YthlfplljbbnaoaaGreatDoor

/- The document's list of numbers, and the width of so many places. -/
namespace Go.Proofs.YthlfplljbbnaoaaGreatDoor
open Go.RowKit
set_option linter.unusedVariables false
set_option linter.unusedSimpArgs false
set_option maxRecDepth 100000

/-- One of the first 'k' isn't below 'z'. -/
def dnD (z : Int) (o : List Int) (k : Nat) : Bool := (o.take k).any fun y => decide (z ≤ y)
/-- What is laid behind 'k' of them. -/
def nxD (z : Int) (o : List Int) (k : Nat) : List Int := if dnD z o k = true then insD z (o.take k) else o.take k
theorem insD_fore (z : Int) (a b : List Int) (h : ∀ x ∈ a, x < z) : insD z (a ++ b) = a ++ insD z b := by
  induction a with
  | nil => rfl
  | cons y a ih =>
    have hy := h y (by simp)
    rw [List.cons_append]
    simp only [insD]
    rw [if_pos hy, ih (fun x hx => h x (by simp [hx])), List.cons_append]
theorem insD_past (z : Int) (a b : List Int) (h : ∃ x ∈ a, z ≤ x) : insD z (a ++ b) = insD z a ++ b := by
  induction a with
  | nil => obtain ⟨x, hx, _⟩ := h; simp at hx
  | cons y a ih =>
    rw [List.cons_append]
    simp only [insD]
    by_cases h1 : y < z
    · rw [if_pos h1, if_pos h1, ih ?_, List.cons_append]
      obtain ⟨x, hx, hz⟩ := h
      rcases List.mem_cons.1 hx with rfl | hx
      · omega
      · exact ⟨x, hx, hz⟩
    · rw [if_neg h1, if_neg h1]
      by_cases h2 : y = z
      · rw [if_pos h2, if_pos h2, List.cons_append]
      · rw [if_neg h2, if_neg h2, List.cons_append, List.cons_append]
theorem dnD_succ {z : Int} {o : List Int} {k : Nat} {y : Int} (h : o[k]? = some y) : dnD z o (k + 1) = (dnD z o k || decide (z ≤ y)) := by
  unfold dnD; rw [take_snoc h, List.any_append]; simp
theorem dnD_ex {z : Int} {o : List Int} {k : Nat} (h : dnD z o k = true) : ∃ x ∈ o.take k, z ≤ x := by
  unfold dnD at h; rw [List.any_eq_true] at h
  obtain ⟨x, hx, h2⟩ := h
  exact ⟨x, hx, by simpa using h2⟩
theorem dnD_all {z : Int} {o : List Int} {k : Nat} (h : dnD z o k = false) : ∀ x ∈ o.take k, x < z := by
  intro x hx
  unfold dnD at h
  have := List.any_eq_false.1 h x hx
  simp at this; exact this
theorem nx_past {z : Int} {o : List Int} {k : Nat} {y : Int} (h : o[k]? = some y) (hd : dnD z o k = true) : dnD z o (k + 1) = true ∧ nxD z o (k + 1) = nxD z o k ++ [y] := by
  have h1 : dnD z o (k + 1) = true := by rw [dnD_succ h, hd]; rfl
  refine ⟨h1, ?_⟩
  unfold nxD
  rw [if_pos h1, if_pos hd, take_snoc h, insD_past z _ _ (dnD_ex hd)]
theorem nx_less {z : Int} {o : List Int} {k : Nat} {y : Int} (h : o[k]? = some y) (hd : dnD z o k = false) (hy : ¬ z ≤ y) : dnD z o (k + 1) = false ∧ nxD z o (k + 1) = nxD z o k ++ [y] := by
  have h1 : dnD z o (k + 1) = false := by rw [dnD_succ h, hd]; simpa using hy
  refine ⟨h1, ?_⟩
  unfold nxD
  rw [h1, hd, if_neg (by simp), if_neg (by simp), take_snoc h]
theorem nx_same {z : Int} {o : List Int} {k : Nat} {y : Int} (h : o[k]? = some y) (hd : dnD z o k = false) (hy : y = z) : dnD z o (k + 1) = true ∧ nxD z o (k + 1) = nxD z o k ++ [y] := by
  have h1 : dnD z o (k + 1) = true := by rw [dnD_succ h, hd]; simp; omega
  refine ⟨h1, ?_⟩
  unfold nxD
  rw [h1, hd, if_pos rfl, if_neg (by simp), take_snoc h, insD_fore z _ _ (dnD_all hd)]
  simp [insD, hy]
theorem nx_new {z : Int} {o : List Int} {k : Nat} {y : Int} (h : o[k]? = some y) (hd : dnD z o k = false) (hy : z < y) : dnD z o (k + 1) = true ∧ nxD z o (k + 1) = nxD z o k ++ [z] ++ [y] := by
  have h1 : dnD z o (k + 1) = true := by rw [dnD_succ h, hd]; simp; omega
  refine ⟨h1, ?_⟩
  unfold nxD
  rw [h1, hd, if_pos rfl, if_neg (by simp), take_snoc h, insD_fore z _ _ (dnD_all hd)]
  simp only [insD]
  rw [if_neg (by omega), if_neg (by omega), List.append_assoc]; rfl
theorem nx_end {z : Int} {o : List Int} (hd : dnD z o o.length = true) : nxD z o o.length = insD z o := by
  unfold nxD; rw [if_pos hd, List.take_length]
theorem nx_last {z : Int} {o : List Int} (hd : dnD z o o.length = false) : nxD z o o.length ++ [z] = insD z o := by
  have h := dnD_all hd
  rw [List.take_length] at h
  have := insD_fore z o [] h
  rw [List.append_nil] at this
  unfold nxD; rw [hd, if_neg (by simp), List.take_length, this]; rfl
theorem nxD_length (z : Int) (o : List Int) (k : Nat) : (nxD z o k).length ≤ k + 1 := by
  unfold nxD
  have h1 : (o.take k).length ≤ k := List.length_take_le _ _
  split
  · have := insD_length z (o.take k); omega
  · omega
theorem refWidthD_any (c : Nat) (w : World) (hc : c ≤ 1099511627776) :
    Calls Tryz.prog 129 #[.int .i64 (c : Int)] w fun e w' => e = .returned (.int .i64 (blen (c - 1) : Int)) ∧ w = w' := by
  have hle : blen (c - 1) ≤ 40 := (blen_le _ _).2 (by omega)
  go_enter Tryz.func129, Tryz.ntmps129
  go_wp2_with fail
  go_loop [3, 4] (fun s3 s4 => ∃ j p : Nat, j ≤ blen (c - 1) ∧ s3 = .int .i64 (j : Int) ∧ s4 = .int .i64 (p : Int) ∧ Hid (p = 2 ^ j) ∧ p ≤ 1099511627776) (fun s3 _ => 41 - (intOf s3).toNat)
  case atStart => exact ⟨0, 1, Nat.zero_le _, rfl, rfl, Lib.hid rfl, by omega⟩
  case round =>
    obtain ⟨j, p, hj, rfl, rfl, hp, hpl⟩ := hrel
    by_cases hlt : p < c
    · have h1 : ¬ blen (c - 1) ≤ j := fun h => by have := (blen_le _ _).1 h; rw [← hp.out] at this; omega
      have HP : Hid (2 * p = 2 ^ (j + 1)) := Lib.hid (by rw [hp.out, Nat.pow_succ, Nat.mul_comm])
      have h40 : j + 1 ≤ 40 := by omega
      have HL : 2 * p ≤ 1099511627776 := by
        rw [HP.out]
        exact Nat.le_trans (Nat.pow_le_pow_right (by omega) h40) (by omega)
      go_wp2_with fail
      go_round
      case rel => exact ⟨j + 1, 2 * p, by omega, by go_num, by go_num, HP, HL⟩
      case measure => simp [intOf]; omega
    · have h0 : 0 < p := by rw [hp.out]; exact Nat.two_pow_pos j
      have h1 : blen (c - 1) ≤ j := (blen_le _ _).2 (by rw [← hp.out]; omega)
      obtain rfl : j = blen (c - 1) := by omega
      go_wp2_with fail
      go_ret
      exact ⟨rfl, rfl⟩
theorem own_drewN {w : World} {base : Nat} {e : TypeId} {size n : Nat} {v : Value} {xs : List Value} (h : w.ownsRow base e size v n xs) (k : Nat) : (w.drewN k).ownsRow base e size v n xs := h
set_option maxHeartbeats 2000000 in
theorem refList_any (A : Option Addr) (n c : Nat) (l : List Int) (w : World) (hr : Reads w w.heap.size 1 A n (zs l)) (hn : n ≤ 65536) :
    Calls Tryz.prog 128 #[.slice A n c] w fun e w' => ∃ v, e = .returned v ∧ w'.ownsRow w.heap.size 2 1 v (lstD l).length (zs (lstD l)) ∧ Below w.heap.size w w' := by
  obtain ⟨i1, hi1, hy0, hy1, hy2⟩ := info_parts info_i64
  have e1 : l.length = n := by have := hr.1; rw [zs_length] at this; omega
  have E1 := Lib.hid e1
  clear e1
  go_enter Tryz.func128, Tryz.ntmps128
  go_wp2_with fail
  go_loopw [3, 4] (fun s3 s4 wr => ∃ k : Nat, k ≤ n ∧ s4 = .int .i64 (k : Int) ∧ wr.ownsRow w.heap.size 2 1 s3 (lstD (l.take k)).length (zs (lstD (l.take k))) ∧ Below w.heap.size w wr) (fun _ i _ => n - (intOf i).toNat)
  case atStart => exact ⟨0, Nat.zero_le _, rfl, own_nil _ _ _ _, Below.refl _ _⟩
  case round =>
    obtain ⟨k, hk, rfl, hown, hb⟩ := hrel
    by_cases hlt : k < n
    · obtain ⟨ad, u, rfl, hadb, hu, hc⟩ := hr.at_ hlt
      obtain ⟨z, hz, rfl⟩ := zs_at hu
      have hzc : ∀ W : World, Below w.heap.size w W → W.cell? (ad.add k) = some (.int .i64 z) := fun W h => (h.cell (p := ad.add k) (by rw [block_of_add]; exact hadb)).trans hc
      have HZC := Lib.hid hzc
      have hol := lstD_length (l.take k)
      have htk : (l.take k).length ≤ k := List.length_take_le _ _
      have HS : Hid (lstD (l.take (k + 1)) = insD z (lstD (l.take k))) := Lib.hid (by rw [take_snoc hz, lstD_snoc])
      obtain ⟨o, ho⟩ : ∃ o, o = lstD (l.take k) := ⟨_, rfl⟩
      obtain ⟨N, hN⟩ : ∃ N, N = o.length := ⟨_, rfl⟩
      rw [← ho] at hown hol HS
      rw [← hN] at hown hol
      have HN := Lib.hid hN
      obtain ⟨A3, c3, rfl, hc3, _, r3⟩ := own_slice hown
      obtain ⟨B, hB⟩ : ∃ B, B = wr.heap.size := ⟨_, rfl⟩
      have hwB : w.heap.size ≤ B := by rw [hB]; exact hb.size
      rw [← hB] at r3
      have hbB : Below B wr wr := Below.refl _ _
      have HBT := Lib.hid (fun (W : World) (h : Below B wr W) => (show Below w.heap.size w W from hb.trans (h.mono hwB)))
      have HBB := Lib.hid hB
      clear hu hz ho hN hzc hc hadb hown hB
      have hNk : N ≤ k := by omega
      clear hol htk
      go_wp2_with fail
      go_loopw [5, 6, 7] (fun s5 s6 s7 wx => ∃ j : Nat, j ≤ N ∧ s7 = .int .i64 (j : Int) ∧ s6 = .bool (dnD z o j) ∧ wx.ownsRow B 2 1 s5 (nxD z o j).length (zs (nxD z o j)) ∧ Below B wr wx ∧ B ≤ wx.heap.size) (fun _ _ j _ => N - (intOf j).toNat)
      case atStart => exact ⟨0, Nat.zero_le _, rfl, rfl, own_nil _ _ _ _, hbB, by rw [HBB.out]; exact Nat.le_refl _⟩
      case round =>
        obtain ⟨j, hj, rfl, rfl, hown2, hb2, hBs⟩ := hrel
        have hnl := nxD_length z o j
        by_cases hlt2 : j < N
        · obtain ⟨ad3, u3, rfl, hadb3, hu3, hc3'⟩ := r3.at_ hlt2
          obtain ⟨y, hy, rfl⟩ := zs_at hu3
          have HYC := Lib.hid (fun (W : World) (h : Below B _ W) => (h.cell (p := ad3.add j) (by rw [block_of_add]; exact hadb3)).trans hc3')
          have hcy := HYC.out _ hb2
          have hcz := HZC.out _ (HBT.out _ hb2)
          have HY := Lib.hid hy
          clear hu3 hy hadb3 hc3'
          cases hdn : dnD z o j with
          | true =>
            have HP := Lib.hid (nx_past HY.out hdn)
            clear hdn
            go_wp2_with fail
            go_quiet (fail)
            go_wp2_with (at_builtin
                         refine wpList_append_any _ rfl (.tmp 49) (.tmp 54) _ rfl B 2 i1 _ 1 8 Tryz.underlying87 hi1 hy0 hy1 hy2 rfl (by omega) u5 (nxD z o j).length (zs (nxD z o j)) rfl
                           ((own_drewN hown2 _).alloc _) (wr.heap.size + 1) (some ⟨wr.heap.size, 0, none⟩) 1 1 [.int .i64 y] rfl (Reads.new (wr.drewN _) _ _) (one_int _ _) (by unfold maxLen; omega) (by omega) (by simp; omega) ?_
                         intro v4 w4 hown4 hg4 hat4)
            go_round
            case rel =>
              refine ⟨j + 1, by omega, by go_num, by rw [HP.out.1], ?_, below_app ((Drawn.one _ _).below hb2) (own_drewN hown2 _) hBs hg4, by have := hg4.size; simp at this; omega⟩
              rw [HP.out.2, ← zs_snoc, List.length_append, List.length_singleton]
              exact hown4
            case measure => simp [intOf]; omega
          | false =>
            by_cases hzy : z ≤ y
            · by_cases hzy2 : z < y
              · have HP := Lib.hid (nx_new HY.out hdn hzy2)
                clear hdn
                go_wp2_with fail
                go_quiet (fail)
                go_wp2_with fail
                go_quiet (fail)
                go_wp2_with (first
                  | (at_builtin
                     refine wpList_append_any _ rfl (.tmp 42) (.tmp 47) _ rfl B 2 i1 _ 1 8 Tryz.underlying87 hi1 hy0 hy1 hy2 rfl (by omega) u5 (nxD z o j).length (zs (nxD z o j)) rfl
                       ((own_drewN hown2 _).alloc _) (wr.heap.size + 1) (some ⟨wr.heap.size, 0, none⟩) 1 1 [.int .i64 z] rfl (Reads.new (wr.drewN _) _ _) (one_int _ _) (by unfold maxLen; omega) (by omega) (by simp; omega) ?_
                     intro v4 w4 hown4 hg4 hat4
                     have hb4 := below_app ((Drawn.one _ _).below hb2) (own_drewN hown2 _) hBs hg4
                     have hcy4 := HYC.out _ hb4
                     have hBs4 : B ≤ w4.heap.size := by have := hg4.size; simp at this; omega)
                  | (at_builtin
                     refine wpList_append_any _ rfl (.tmp 49) (.tmp 54) _ rfl B 2 i1 _ 1 8 Tryz.underlying87 hi1 hy0 hy1 hy2 rfl (by omega) v4 ((nxD z o j).length + 1) (zs (nxD z o j) ++ [.int .i64 z]) rfl
                       (hown4.alloc _) (w4.heap.size + 1) (some ⟨w4.heap.size, 0, none⟩) 1 1 [.int .i64 y] rfl (Reads.new w4 _ _) (one_int _ _) (by unfold maxLen; omega) (by omega) (by simp; omega) ?_
                     intro v5 w5 hown5 hg5 hat5))
                go_round
                case rel =>
                  refine ⟨j + 1, by omega, by go_num, by rw [HP.out.1], ?_, below_app hb4 hown4 hBs4 hg5, by have := hg5.size; simp at this; omega⟩
                  rw [HP.out.2, ← zs_snoc, ← zs_snoc, List.length_append, List.length_append, List.length_singleton, List.length_singleton]
                  exact hown5
                case measure => simp [intOf]; omega
              · obtain rfl : y = z := by omega
                have HP := Lib.hid (nx_same HY.out hdn rfl)
                clear hdn hzy
                have hzz : y ≤ y := Int.le_refl _
                go_wp2_with fail
                go_quiet (fail)
                go_wp2_with fail
                go_quiet (fail)
                go_wp2_with (at_builtin
                             refine wpList_append_any _ rfl (.tmp 49) (.tmp 54) _ rfl B 2 i1 _ 1 8 Tryz.underlying87 hi1 hy0 hy1 hy2 rfl (by omega) u5 (nxD y o j).length (zs (nxD y o j)) rfl
                               ((own_drewN hown2 _).alloc _) (wr.heap.size + 1) (some ⟨wr.heap.size, 0, none⟩) 1 1 [.int .i64 y] rfl (Reads.new (wr.drewN _) _ _) (one_int _ _) (by unfold maxLen; omega) (by omega) (by simp; omega) ?_
                             intro v4 w4 hown4 hg4 hat4)
                go_round
                case rel =>
                  refine ⟨j + 1, by omega, by go_num, by rw [HP.out.1], ?_, below_app ((Drawn.one _ _).below hb2) (own_drewN hown2 _) hBs hg4, by have := hg4.size; simp at this; omega⟩
                  rw [HP.out.2, ← zs_snoc, List.length_append, List.length_singleton]
                  exact hown4
                case measure => simp [intOf]; omega
            · have HP := Lib.hid (nx_less HY.out hdn hzy)
              clear hdn
              go_wp2_with fail
              go_quiet (fail)
              go_wp2_with (at_builtin
                           refine wpList_append_any _ rfl (.tmp 49) (.tmp 54) _ rfl B 2 i1 _ 1 8 Tryz.underlying87 hi1 hy0 hy1 hy2 rfl (by omega) u5 (nxD z o j).length (zs (nxD z o j)) rfl
                             ((own_drewN hown2 _).alloc _) (wr.heap.size + 1) (some ⟨wr.heap.size, 0, none⟩) 1 1 [.int .i64 y] rfl (Reads.new (wr.drewN _) _ _) (one_int _ _) (by unfold maxLen; omega) (by omega) (by simp; omega) ?_
                           intro v4 w4 hown4 hg4 hat4)
              go_round
              case rel =>
                refine ⟨j + 1, by omega, by go_num, by rw [HP.out.1], ?_, below_app ((Drawn.one _ _).below hb2) (own_drewN hown2 _) hBs hg4, by have := hg4.size; simp at this; omega⟩
                rw [HP.out.2, ← zs_snoc, List.length_append, List.length_singleton]
                exact hown4
              case measure => simp [intOf]; omega
        · obtain rfl : j = N := by omega
          have hcz := HZC.out _ (HBT.out _ hb2)
          have hbo := HBT.out _ hb2
          cases hdn : dnD z o j with
          | true =>
            have HE : Hid (nxD z o j = insD z o) := Lib.hid (by rw [HN.out] at hdn ⊢; exact nx_end hdn)
            clear hdn
            go_wp2_with fail
            go_round
            case rel =>
              refine ⟨k + 1, by omega, by go_num, ?_, hbo⟩
              rw [HS.out, ← HE.out]
              exact own_base hown2 hwB
            case measure => simp [intOf]; omega
          | false =>
            have HE : Hid (nxD z o j ++ [z] = insD z o) := Lib.hid (by rw [HN.out] at hdn ⊢; exact nx_last hdn)
            clear hdn
            go_wp2_with (at_builtin
                         refine wpList_append_any _ rfl (.tmp 58) (.tmp 63) _ rfl B 2 i1 _ 1 8 Tryz.underlying87 hi1 hy0 hy1 hy2 rfl (by omega) u5 (nxD z o j).length (zs (nxD z o j)) rfl
                           (hown2.alloc _) (wr.heap.size + 1) (some ⟨wr.heap.size, 0, none⟩) 1 1 [.int .i64 z] rfl (Reads.new wr _ _) (one_int _ _) (by unfold maxLen; omega) (by omega) (by simp; omega) ?_
                         intro v4 w4 hown4 hg4 hat4)
            go_round
            case rel =>
              refine ⟨k + 1, by omega, by go_num, ?_, HBT.out _ (below_app hb2 hown2 hBs hg4)⟩
              rw [HS.out, ← HE.out, ← zs_snoc, List.length_append, List.length_singleton]
              exact own_base hown4 hwB
            case measure => simp [intOf]; omega
    · obtain rfl : k = n := by omega
      rw [List.take_of_length_le (by rw [E1.out]; exact Nat.le_refl _)] at hown
      go_wp2_with fail
      go_ret
      exact ⟨_, rfl, hown, hb⟩
end Go.Proofs.YthlfplljbbnaoaaGreatDoor

/- The document's form by a list. -/
namespace Go.Proofs.YthlfplljbbnaoaaGreatDoor
open Go.RowKit
set_option linter.unusedVariables false
set_option linter.unusedSimpArgs false
set_option maxRecDepth 100000

/-- The places laid when 'k' of the list have been looked at. -/
def atD (p k : Nat) : List Nat := if p < k then [p] else []
theorem atD_zero (p : Nat) : atD p 0 = [] := by unfold atD; rw [if_neg (by omega)]
theorem atD_all {p k : Nat} (h : p < k) : atD p k = [p] := by unfold atD; rw [if_pos h]
theorem atD_hit (k : Nat) : atD k k = [] ∧ atD k (k + 1) = [k] := ⟨by unfold atD; rw [if_neg (by omega)], by unfold atD; rw [if_pos (by omega)]⟩
theorem atD_miss {p k : Nat} (h : p ≠ k) : atD p (k + 1) = atD p k := by
  unfold atD
  by_cases h1 : p < k
  · rw [if_pos h1, if_pos (by omega)]
  · rw [if_neg h1, if_neg (by omega)]
theorem plcD_step {l : List Int} {k : Nat} {z : Int} (h : l[k]? = some z) : (plcD l).take (k + 1) = (plcD l).take k ++ [posD (lstD l) z] := take_snoc (by unfold plcD; rw [List.getElem?_map, h]; rfl)
set_option maxHeartbeats 2000000 in
theorem refDc_any (A : Option Addr) (n c : Nat) (l : List Int) (w : World) (hr : Reads w w.heap.size 1 A n (zs l)) (hl : ∀ x ∈ l, In64 x) (hn : n ≤ 65536) :
    Calls Tryz.prog 66 #[.slice A n c] w (New w (bs (dc l)) (dc l).length) := by
  obtain ⟨i0, hi0, hz0, hz1, hz2⟩ := info_parts info_u8
  obtain ⟨i1, hi1, hy0, hy1, hy2⟩ := info_parts info_u64
  have e1 : l.length = n := by have := hr.1; rw [zs_length] at this; omega
  have E1 := Lib.hid e1
  have hLl := lstD_length l
  rw [e1] at hLl
  have hcl := refList_any A n c l w hr hn
  obtain ⟨L, hL⟩ : ∃ L, L = lstD l := ⟨_, rfl⟩
  obtain ⟨N, hN⟩ : ∃ N, N = L.length := ⟨_, rfl⟩
  have HRI : Hid (Rise L) := Lib.hid (by rw [hL]; exact lstD_rise l)
  have HIN : Hid (∀ z ∈ L, In64 z) := Lib.hid (by rw [hL]; exact lstD_in hl)
  have HHL : Hid ((htD L).length = N) := Lib.hid (by rw [htD_length, hN])
  have HHD : Hid (hdD L = vb N ++ vbs (htD L)) := Lib.hid (by rw [hdD_eq, hN])
  have HL := Lib.hid hL
  rw [← hL] at hcl hLl
  rw [← hN] at hcl hLl
  have HC := Lib.hid hcl
  clear hcl e1 hL hN
  go_enter Tryz.func66, Tryz.ntmps66
  go_wp2_with fail
  refine HC.out.mono ?_
  rintro e w1 ⟨v1, rfl, hown1, hb1⟩
  obtain ⟨A1, c1, rfl, hc1, _, r1⟩ := own_slice hown1
  clear hown1
  have hNc : IntKind.u64.wrap (N : Int) = (N : Int) := by rw [u64w]; omega
  go_wp2_with fail
  refine (refVar_any N w1 (by omega)).mono ?_
  rintro e w2 ⟨v2, rfl, hown2, hb2⟩
  go_wp2_with fail
  go_loopw [4, 5] (fun s4 s5 wr => ∃ k : Nat, k ≤ N ∧ s5 = .int .i64 (k : Int) ∧ wr.ownsRow w1.heap.size 5 1 s4 (vb N ++ vbs ((htD L).take k)).length (bs (vb N ++ vbs ((htD L).take k))) ∧ Below w1.heap.size w1 wr) (fun _ i _ => N - (intOf i).toNat)
  case atStart => exact ⟨0, Nat.zero_le _, rfl, by simpa [vbs] using hown2, hb2⟩
  case round =>
    clear hown2 hb2
    obtain ⟨k, hk, rfl, hown, hb⟩ := hrel
    have hsz := hb.size
    have hvl := vbs_length ((htD L).take k)
    have hvn := vb_length N
    have htl : ((htD L).take k).length ≤ k := by rw [List.length_take]; omega
    have hwl : (vb N ++ vbs ((htD L).take k)).length ≤ 655370 := by rw [List.length_append]; omega
    clear hvl hvn htl
    by_cases hlt : k < N
    · obtain ⟨ad, u, rfl, _, hu, hc⟩ := (r1.below hb).at_ hlt
      obtain ⟨z, hz, rfl⟩ := zs_at hu
      have hzin := HIN.out z (List.mem_of_getElem? hz)
      have HZ := Lib.hid hz
      clear hu hz
      by_cases hk0 : k = 0
      · have hzg := (zg_int hzin).2
        have q0 : ((k : Int) == 0) = true := by simp; omega
        have HST : Hid (vbs ((htD L).take (k + 1)) = vbs ((htD L).take k) ++ vb (zg z)) := Lib.hid (vbs_step (by rw [hk0]; exact htD_zero (hk0 ▸ HZ.out)))
        have hc0 : wr.cell? ad = some (.int .i64 z) := by rw [hk0] at hc; simpa [Addr.add] using hc
        have h0N : 0 < N := by omega
        clear hk0 hc
        go_wp2_with fail
        refine (refZigN_any z wr hzin).mono ?_
        rintro e w' ⟨rfl, rfl⟩
        go_wp2_with fail
        refine (refVar_any (zg z) wr hzg).mono ?_
        intro e2 w2' hN2
        obtain ⟨A2, c2, rfl, _, hr2, hb2⟩ := hN2.opened
        clear hN2
        have hg2 : (vb (zg z)).length ≤ 10 := (vb_length (zg z)).2
        have hown2 := own_below hown hb2
        have hb02 := hb.trans (hb2.mono hb.size)
        go_wp2_with (at_builtin
                     refine wpList_append_any _ rfl (.tmp 26) (.tmp 31) _ rfl w1.heap.size 5 i0 _ 1 1 Tryz.underlying25 hi0 hz0 hz1 hz2 rfl (by omega) u4 (vb N ++ vbs ((htD L).take k)).length (bs (vb N ++ vbs ((htD L).take k))) rfl
                       hown2 w2'.heap.size A2 (vb (zg z)).length c2 (bs (vb (zg z))) rfl hr2 (bs_one _) (by unfold maxLen; omega) (by omega) hb02.size ?_
                     intro v3 w3 hown3 hg3 hat3)
        go_round
        case rel =>
          refine ⟨k + 1, by omega, by go_num, ?_, hb02.grown hg3 hb02.size (fun j hj => (hown2.lt j hj).1)⟩
          rw [HST.out, ← List.append_assoc, List.length_append, bs_append]
          exact hown3
        case measure => simp [intOf]; omega
      · obtain ⟨j, hj⟩ : ∃ j, k = j + 1 := ⟨k - 1, by omega⟩
        have hjn : j < N := by omega
        have q0 : ((k : Int) == 0) = false := by simp; omega
        have hk1 : (k : Int) - 1 = (j : Int) := by omega
        have hk2 : IntKind.i64.wrap (j : Int) = (j : Int) := IntWalk.i64_in _ (by omega)
        obtain ⟨ad2, u2, e2, _, hu2, hc1⟩ := (r1.below hb).at_ hjn
        injection e2 with e2
        subst e2
        obtain ⟨y, hy, rfl⟩ := zs_at hu2
        have hyin := HIN.out y (List.mem_of_getElem? hy)
        have hyz : y < z := by
          have h1 := List.pairwise_iff_getElem.1 HRI.out
          obtain ⟨a1, a2⟩ := List.getElem?_eq_some_iff.1 hy
          obtain ⟨b1, b2⟩ := List.getElem?_eq_some_iff.1 HZ.out
          have := h1 j k a1 b1 (by omega)
          omega
        obtain ⟨g, hg⟩ : ∃ g, g = (z - y - 1).toNat := ⟨_, rfl⟩
        have HST : Hid (vbs ((htD L).take (k + 1)) = vbs ((htD L).take k) ++ vb g) := Lib.hid (by
          refine vbs_step ?_
          rw [hg, hj]
          exact htD_succ hy (hj ▸ HZ.out))
        have hgl : g < 18446744073709551616 := by unfold In64 at hyin hzin; omega
        have HX : Hid (IntKind.u64.wrap (IntKind.u64.wrap (IntKind.u64.wrap z - IntKind.u64.wrap y) - 1) = (g : Int)) := Lib.hid (by rw [gap_eq2 hyin hzin hyz, hg])
        have hg10 : (vb g).length ≤ 10 := (vb_length g).2
        clear hu2 hy hg hj hyz hyin hzin
        go_wp2_with fail
        go_region_law (first
          | (refine step_append_any _ rfl (.tmp 33) (.tmp 47) _ rfl w1.heap.size 5 i0 _ 1 1 Tryz.underlying25 hi0 hz0 hz1 hz2 rfl (by omega) u4 (vb N ++ vbs ((htD L).take k)).length (bs (vb N ++ vbs ((htD L).take k))) (by simp [Act.eval, Act.put])
              hown2 w2'.heap.size A2 (vb g).length c2 (bs (vb g)) (by simp [Act.eval, Act.put]) hr2 (bs_one _) (by unfold maxLen; omega) (by omega) hb02.size ?_
             intro v3 w3 hown3 hg3 hat3)
          | (go_simp; rw [HX.out]; go_at_call 122; refine (refVar_any g wr.drew hgl).mono ?_
             intro e2 w2' hN2
             obtain ⟨A2, c2, rfl, _, hr2, hb2⟩ := hN2.opened
             clear hN2
             have hown2 := own_below (show wr.drew.ownsRow _ _ _ _ _ _ from hown) hb2
             have hb02 := (Below.drew hb).trans (hb2.mono hb.size)
             show _))
        all_goals
          go_wp2_with fail
          go_round
          case rel =>
            refine ⟨k + 1, by omega, by go_num, ?_, hb02.grown hg3 hb02.size (fun j hj => (hown2.lt j hj).1)⟩
            rw [HST.out, ← List.append_assoc, List.length_append, bs_append]
            exact hown3
          case measure => simp [intOf]; omega
    · obtain rfl : k = N := by omega
      rw [List.take_of_length_le (by rw [HHL.out]; exact Nat.le_refl _), ← HHD.out] at hown hwl
      obtain ⟨B, hB⟩ : ∃ B, B = wr.heap.size := ⟨_, rfl⟩
      have hb0r := hb1.trans (hb.mono hb1.size)
      have hwB : w.heap.size ≤ B := by rw [hB]; exact hb0r.size
      have h1B : w1.heap.size ≤ B := by rw [hB]; exact hsz
      have HR1 := Lib.hid (fun (W : World) (h : Below B wr W) => ((r1.below hb).more h1B).below h)
      have HBT := Lib.hid (fun (W : World) (h : Below B wr W) => (show Below w.heap.size w W from hb0r.trans (h.mono hwB)))
      have HW1 := Lib.hid hb1.size
      have HOB := Lib.hid (fun (W : World) (h : Below B wr W) => own_below hown (by rw [← hB]; exact h))
      have hlts := hown.lt
      rw [← hB] at hlts
      have HLT := Lib.hid hlts
      have hbB : Below B wr wr := Below.refl _ _
      have hBw : B ≤ wr.heap.size := by rw [hB]; exact Nat.le_refl _
      have HPL : Hid ((plcD l).length = n) := Lib.hid (by rw [plcD_length, E1.out])
      clear hB hb0r r1 hown hb hb1 hlts
      go_wp2_with fail
      go_loopw [6, 7] (fun s6 s7 wx => ∃ i : Nat, i ≤ n ∧ s7 = .int .i64 (i : Int) ∧ wx.ownsRow B 61 1 s6 i (us ((plcD l).take i)) ∧ Below B wr wx ∧ B ≤ wx.heap.size) (fun _ i _ => n - (intOf i).toNat)
      case atStart => exact ⟨0, Nat.zero_le _, rfl, own_nil _ _ _ _, hbB, hBw⟩
      case round =>
        clear hbB hBw
        obtain ⟨i, hi, rfl, hown2, hb2, hBs⟩ := hrel
        by_cases hlt2 : i < n
        · obtain ⟨ad, u, rfl, had, hu, hc⟩ := (hr.below (HBT.out _ hb2)).at_ hlt2
          obtain ⟨z, hz, rfl⟩ := zs_at hu
          have hmem : z ∈ L := by rw [HL.out]; exact (lstD_mem l z).2 (List.mem_of_getElem? hz)
          have HPS : Hid ((plcD l).take (i + 1) = (plcD l).take i ++ [posD L z]) := Lib.hid (by rw [plcD_step hz, HL.out])
          have HCZ := Lib.hid (fun (W : World) (h : Below w.heap.size w W) => ((hr.below h).2 (by omega)))
          have hpos : posD L z < k := by
            have := posD_lt hmem
            rw [← HHL.out, htD_length]; exact this
          have HPA := Lib.hid (posD_at hmem)
          have hzc : ∀ W, Below w.heap.size w W → W.cell? (ad.add i) = some (.int .i64 z) := fun W h => by
            obtain ⟨ad', e, _, h1⟩ := (hr.below h).2 (by omega)
            injection e with e
            subst e
            exact h1 i _ (zs_get hz)
          have HZC := Lib.hid hzc
          obtain ⟨p, hp⟩ : ∃ p, p = posD L z := ⟨_, rfl⟩
          rw [← hp] at hpos HPA HPS
          clear hu hz hmem hzc hc hp had HCZ
          go_wp2_with fail
          go_loopw [6, 8] (fun s6 s8 wy => ∃ j : Nat, j ≤ k ∧ s8 = .int .i64 (j : Int) ∧ wy.ownsRow B 61 1 s6 (i + (atD p j).length) (us ((plcD l).take i ++ atD p j)) ∧ Below B _ wy ∧ B ≤ wy.heap.size) (fun _ j _ => k - (intOf j).toNat)
          case atStart => exact ⟨0, Nat.zero_le _, rfl, by simpa [atD_zero] using hown2, hb2, hBs⟩
          case round =>
            clear hown2 hb2 hBs
            obtain ⟨j, hj, rfl, hown3, hb3, hBs⟩ := hrel
            by_cases hlt3 : j < k
            · obtain ⟨ad3, u3, rfl, _, hu3, hc3⟩ := (HR1.out _ hb3).at_ hlt3
              obtain ⟨x, hx, rfl⟩ := zs_at hu3
              have hcz := HZC.out _ (HBT.out _ hb3)
              have HX := Lib.hid hx
              clear hu3 hx
              by_cases hxz : x = z
              · subst hxz
                have hpj : p = j := rise_inj HRI.out HPA.out HX.out
                subst hpj
                have h1 := (atD_hit p).1
                rw [h1, List.append_nil, List.length_nil, Nat.add_zero] at hown3
                have H2 := Lib.hid (atD_hit p).2
                have q1 : ((x : Int) == x) = true := by simp
                have hjc : IntKind.u64.wrap (p : Int) = (p : Int) := by rw [u64w]; omega
                clear h1
                go_wp2_with fail
                go_quiet (fail)
                go_wp2_with (at_builtin
                             refine wpList_append_any _ rfl (.tmp 70) (.tmp 73) _ rfl B 61 i1 _ 1 8 Tryz.underlying125 hi1 hy0 hy1 hy2 rfl (by omega) u6 i (us ((plcD l).take i)) rfl
                               ((own_drewN hown3 _).alloc _) (wr.heap.size + 1) (some ⟨wr.heap.size, 0, none⟩) 1 1 [.int .u64 (p : Int)] rfl (Reads.new (wr.drewN _) _ _) (one_int _ _) (by unfold maxLen; omega) (by omega) (by simp; omega) ?_
                             intro v4 w4 hown4 hg4 hat4)
                go_round
                case rel =>
                  refine ⟨p + 1, by omega, by go_num, ?_, below_app ((Drawn.one _ _).below hb3) (own_drewN hown3 _) hBs hg4, by have := hg4.size; simp at this; omega⟩
                  rw [H2.out, us_append]
                  exact hown4
                case measure => simp [intOf]; omega
              · have hpj : p ≠ j := fun e => by
                  have h1 := HPA.out
                  rw [e, HX.out] at h1
                  injection h1 with h1
                  exact hxz h1
                have H2 := Lib.hid (atD_miss hpj)
                have q1 : ((x : Int) == z) = false := by simp [hxz]
                go_wp2_with fail
                go_quiet (fail)
                go_wp2_with fail
                go_round
                case rel =>
                  refine ⟨j + 1, by omega, by go_num, ?_, (Drawn.one _ _).below hb3, hBs⟩
                  rw [H2.out]
                  exact hown3
                case measure => simp [intOf]; omega
            · obtain rfl : j = k := by omega
              rw [atD_all hpos, ← HPS.out] at hown3
              go_wp2_with fail
              go_round
              case rel => exact ⟨i + 1, by omega, by go_num, hown3, hb3, hBs⟩
              case measure => simp [intOf]; omega
        · obtain rfl : i = n := by omega
          rw [List.take_of_length_le (by rw [HPL.out]; exact Nat.le_refl _)] at hown2
          obtain ⟨P, hP⟩ : ∃ P, P = plcD l := ⟨_, rfl⟩
          obtain ⟨K, hK⟩ : ∃ K, K = wd P := ⟨_, rfl⟩
          have hKb : blen (k - 1) = K := by rw [hK, hP, wd_plcD, ← HL.out, ← HHL.out, htD_length]
          have hK16 : K ≤ 16 := by rw [hK, hP]; exact wd_plcD_le l (by rw [E1.out]; exact hn)
          have hP64 : ∀ a ∈ P, a < 18446744073709551616 := fun a ha => by
            rw [hP] at ha
            have h1 := plcD_lt l a ha
            have h2 := lstD_length l
            rw [E1.out] at h2
            omega
          have hdp := (dc_parts l (by rw [E1.out]; exact hn)).2
          have HD : Hid (dc l = hdD L ++ [K] ++ packB K P) := Lib.hid (by unfold dc; rw [hK, hP, HL.out])
          rw [← hP] at hown2 hdp
          rw [← hK] at hdp
          have HKB := Lib.hid hKb; have HK := Lib.hid hK; have H64 := Lib.hid hP64
          obtain ⟨A2, c2, rfl, _, _, r2⟩ := own_slice hown2
          have oB := HOB.out _ hb2
          have hb0 := HBT.out _ hb2
          have HLT2 := Lib.hid (fun q (hq : u4.ownBlock = some q) => Nat.lt_of_lt_of_le (HLT.out q hq).2 hBs)
          clear hKb hK hP64 hP hown2
          go_wp2_with fail
          refine (refWidthD_any k wr (by omega)).mono ?_
          rintro e w' ⟨rfl, rfl⟩
          rw [HKB.out]
          go_wp2_with fail
          refine (refPack_fit A2 i c2 P _ K rfl wr r2 H64.out (by omega) (by omega) (by rw [HK.out]; exact Nat.le_refl _)).mono ?_
          rintro e w4 ⟨v4, rfl, hown4, hb4⟩
          obtain ⟨A4, c4, rfl, _, _, _⟩ := own_slice hown4
          have o24 := own_below oB hb4
          have hb04 := hb0.trans (hb4.mono hb0.size)
          have t0 := hb0.size
          have t4 := hb4.size
          have hne : (Value.slice A4 (packB K P).length c4).ownBlock = none ∨ (Value.slice A4 (packB K P).length c4).ownBlock ≠ u4.ownBlock := by
            cases hv : (Value.slice A4 (packB K P).length c4).ownBlock with
            | none => exact .inl rfl
            | some q =>
              refine .inr fun e => ?_
              have h1 := (hown4.lt q hv).1
              have h2 := HLT2.out q e.symm
              omega
          have hw1 : w.heap.size ≤ w1.heap.size := HW1.out
          have hb05 := fun (o : Obj) (w5 : World) (hg : (w4.alloc o).grownBy w5 u4.ownBlock) => below_app hb04 (own_base o24 hw1) hb04.size hg
          clear oB r2
          go_wp2_with (first
            | (at_builtin
               refine wpList_append_any _ rfl (.tmp 84) (.tmp 87) _ rfl w1.heap.size 5 i0 _ 1 1 Tryz.underlying25 hi0 hz0 hz1 hz2 rfl (by omega) u4 (hdD L).length (bs (hdD L)) rfl
                 (o24.alloc _) (w4.heap.size + 1) (some ⟨w4.heap.size, 0, none⟩) 1 1 [.int .u8 (K : Int)] rfl (Reads.new w4 _ _) (one_int _ _) (by unfold maxLen; omega) (by omega) (by simp; omega) ?_
               intro v5 w5 hown5 hg5 hat5
               have o45 := (hown4.alloc (.cells #[.int .u8 (K : Int)] 5)).kept hg5 hne
               have hb5 := hb05 _ _ hg5
               have r4 := Reads.of_own o45)
            | (at_builtin
               refine wpList_append_any _ rfl (.tmp 88) (.tmp 89) _ rfl w1.heap.size 5 i0 _ 1 1 Tryz.underlying25 hi0 hz0 hz1 hz2 rfl (by omega) v5 ((hdD L).length + 1) (bs (hdD L) ++ [.int .u8 (K : Int)]) rfl
                 hown5 w5.heap.size A4 (packB K P).length c4 (bs (packB K P)) rfl r4 (bs_one _) (by unfold maxLen; omega) (by omega) (by have := hg5.size; simp at this; omega) ?_
               intro v6 w6 hown6 hg6 hat6))
          go_ret
          have hb6 := hb5.grown hg6 hb5.size (fun q hq => by have := (hown5.lt q hq).1; omega)
          have hd : bs (hdD L) ++ [.int .u8 (K : Int)] ++ bs (packB K P) = bs (dc l) := by
            rw [HD.out, bs_append, bs_append]; rfl
          have hdl2 : (hdD L).length + 1 + (packB K P).length = (dc l).length := by
            rw [HD.out, List.length_append, List.length_append]; rfl
          rw [hd, hdl2] at hown6
          exact ⟨v6, rfl, own_base hown6 hw1, hb6⟩
end Go.Proofs.YthlfplljbbnaoaaGreatDoor

/- The document's form by the least one. -/
namespace Go.Proofs.YthlfplljbbnaoaaGreatDoor
open Go.RowKit
set_option linter.unusedVariables false
set_option linter.unusedSimpArgs false
set_option maxRecDepth 100000

theorem refFo_nil (A : Option Addr) (c : Nat) (w : World) :
    Calls Tryz.prog 67 #[.slice A 0 c] w (New w (bs (fo [])) (fo []).length) := by
  go_enter Tryz.func67, Tryz.ntmps67
  go_wp2_with fail
  go_ret
  exact ⟨.slice none 0 0, rfl, own_nil _ _ _ _, Below.refl _ _⟩
set_option maxHeartbeats 2000000 in
theorem refFo_main (A : Option Addr) (n c : Nat) (l : List Int) (w : World) (hr : Reads w w.heap.size 1 A n (zs l)) (hl : ∀ x ∈ l, In64 x) (h0 : 0 < n) (hn : n ≤ 65536) :
    Calls Tryz.prog 67 #[.slice A n c] w (New w (bs (fo l)) (fo l).length) := by
  obtain ⟨i0, hi0, hz0, hz1, hz2⟩ := info_parts info_u8
  obtain ⟨i1, hi1, hy0, hy1, hy2⟩ := info_parts info_u64
  have e1 : l.length = n := by have := hr.1; rw [zs_length] at this; omega
  have hne : l ≠ [] := by intro e; subst e; simp at e1; omega
  obtain ⟨ad, u, rfl, _, hu, hc⟩ := hr.at_ h0
  obtain ⟨z0, hz00, rfl⟩ := zs_at hu
  have hc0 : w.cell? ad = some (.int .i64 z0) := by simpa [Addr.add] using hc
  have hm64 := ls_in hl
  have hvl := vb_length (zg (ls l))
  have hzg := (zg_int hm64).2
  have hD64 := dfs_lt hl hm64
  have hK64 := wd_dfs hl
  have hle := fun z (hz : z ∈ l) => ls_le (l := l) z hz
  have hDl := dfs_length (ls l) l
  have hpl : (packB (wd (dfs (ls l) l)) (dfs (ls l) l)).length ≤ 524290 := by have := foB_length hl (by omega); unfold foB at this; rw [List.length_append] at this; omega
  have hfo : fo l = vb (zg (ls l)) ++ [wd (dfs (ls l) l)] ++ packB (wd (dfs (ls l) l)) (dfs (ls l) l) := by rw [fo_ne hne]; unfold foB; simp
  have hstep := fun (k : Nat) (z : Int) (h : l[k]? = some z) => dfs_step (m := ls l) h
  have hall : lsF z0 l n = ls l := by rw [← e1]; exact lsF_all hz00
  obtain ⟨m, hm⟩ : ∃ m, m = ls l := ⟨_, rfl⟩
  rw [← hm] at hm64 hvl hzg hD64 hK64 hle hDl hpl hfo hstep hall
  obtain ⟨D, hD⟩ : ∃ D, D = dfs m l := ⟨_, rfl⟩
  rw [← hD] at hD64 hK64 hDl hpl hfo hstep
  obtain ⟨K, hK⟩ : ∃ K, K = wd D := ⟨_, rfl⟩
  rw [← hK] at hK64 hpl hfo
  rw [e1] at hDl
  have HK := Lib.hid hK; have HL := Lib.hid hl; have HLT := Lib.hid hD64; have HD := Lib.hid hfo; have HS := Lib.hid hstep; have HLE := Lib.hid hle; have HDL := Lib.hid hDl; have HA := Lib.hid hall
  have q0 : ((n : Int) == 0) = false := by simp; omega
  clear hK hl hD64 hfo hstep hle hD hm hDl e1 hall hu hc hz00
  go_enter Tryz.func67, Tryz.ntmps67
  go_wp2_with fail
  go_loop [3, 4] (fun s3 s4 => ∃ (k : Nat) (y : Int), k ≤ n ∧ s4 = .int .i64 (k : Int) ∧ s3 = .int .i64 y ∧ Hid (y = lsF z0 l k)) (fun _ i => n - (intOf i).toNat)
  case atStart => exact ⟨0, z0, Nat.zero_le _, rfl, rfl, Lib.hid rfl⟩
  case round =>
    obtain ⟨k, y, hk, rfl, rfl, hy⟩ := hrel
    by_cases hlt : k < n
    · obtain ⟨ad', u, e', _, hu, hc⟩ := hr.at_ hlt
      injection e' with e'
      subst e'
      obtain ⟨x, hx, rfl⟩ := zs_at hu
      have HX := Lib.hid (lsF_step (z := z0) hx)
      clear hu hx
      go_wp2_with fail
      go_round
      case rel =>
        refine ⟨k + 1, _, by omega, by go_num, rfl, Lib.hid ?_⟩
        rw [HX.out, ← hy.out]
      case measure => simp [intOf]; omega
    · obtain rfl : k = n := by omega
      obtain rfl : m = y := by rw [hy.out, HA.out]
      clear hy hc0
      go_wp2_with fail
      go_loopw [5, 6] (fun s5 s6 wr => ∃ j : Nat, j ≤ k ∧ s6 = .int .i64 (j : Int) ∧ wr.ownsRow w.heap.size 61 1 s5 j (us (D.take j)) ∧ Below w.heap.size w wr) (fun _ i _ => k - (intOf i).toNat)
      case atStart => exact ⟨0, Nat.zero_le _, rfl, own_nil _ _ _ _, Below.refl _ _⟩
      case round =>
        obtain ⟨j, hj, rfl, hown, hb⟩ := hrel
        have hsz := hb.size
        by_cases hlt : j < k
        · obtain ⟨ad', u, e', _, hu, hc⟩ := (hr.below hb).at_ hlt
          injection e' with e'
          subst e'
          obtain ⟨x, hx, rfl⟩ := zs_at hu
          have hx64 := HL.out x (List.mem_of_getElem? hx)
          have hmx := HLE.out x (List.mem_of_getElem? hx)
          have HX := HS.out j x hx
          have hdi := dist_eq hm64 hx64 hmx
          obtain ⟨q, hq⟩ : ∃ q, q = (x - m).toNat := ⟨_, rfl⟩
          rw [← hq] at hdi HX
          have HDI := Lib.hid hdi
          have HX := Lib.hid HX
          clear hu hx hdi hq hmx
          go_wp2_with (at_builtin
                       refine wpList_append_any _ rfl (.tmp 34) (.tmp 43) _ rfl w.heap.size 61 i1 _ 1 8 Tryz.underlying125 hi1 hy0 hy1 hy2 rfl (by omega) u5 j (us (D.take j)) rfl
                         (hown.alloc _) (wr.heap.size + 1) (some ⟨wr.heap.size, 0, none⟩) 1 1 [.int .u64 (IntKind.u64.wrap (IntKind.u64.wrap x - IntKind.u64.wrap m))] rfl (Reads.new wr _ _) (one_int _ _) (by unfold maxLen; omega) (by omega) (by simp; omega) ?_
                       intro v4 w4 hown4 hg4 hat4)
          go_round
          case rel =>
            refine ⟨j + 1, by omega, by go_num, ?_, below_app hb hown hsz hg4⟩
            have h1 := us_snoc [] (D.take j) q _ HDI.out
            simp only [List.nil_append] at h1
            rw [HX.out, ← h1]
            exact hown4
          case measure => simp [intOf]; omega
        · obtain rfl : j = k := by omega
          rw [List.take_of_length_le (by rw [HDL.out]; exact Nat.le_refl _)] at hown
          obtain ⟨A3, c3, rfl, _, _, r3⟩ := own_slice hown
          clear hown hr
          go_wp2_with fail
          refine (refWidth_any A3 j c3 D wr r3 HLT.out (by omega)).mono ?_
          rintro e w' ⟨rfl, rfl⟩
          rw [← HK.out]
          go_wp2_with fail
          refine (refPack_fit A3 j c3 D _ K rfl wr r3 HLT.out (by omega) (by omega) (by rw [HK.out]; exact Nat.le_refl _)).mono ?_
          rintro e w4 ⟨v4, rfl, hown4, hb4⟩
          obtain ⟨A4, c4, rfl, _, _, r4⟩ := own_slice hown4
          have hb04 := hb.trans (hb4.mono hb.size)
          clear r3
          go_wp2_with fail
          refine (refZigN_any m w4 hm64).mono ?_
          rintro e w' ⟨rfl, rfl⟩
          go_wp2_with fail
          refine (refVar_any (zg m) w4 hzg).mono ?_
          rintro e2 w5 ⟨v5, rfl, hown5, hb5⟩
          obtain ⟨A5, c5, rfl, _, _, _⟩ := own_slice hown5
          have hb05 := hb04.trans (hb5.mono hb04.size)
          have o45 := own_below hown4 hb5
          have t5 := hb5.size
          have t0 := hb05.size
          have hne : (Value.slice A4 (packB K D).length c4).ownBlock = none ∨ (Value.slice A4 (packB K D).length c4).ownBlock ≠ (Value.slice A5 (vb (zg m)).length c5).ownBlock := by
            cases hv : (Value.slice A4 (packB K D).length c4).ownBlock with
            | none => exact .inl rfl
            | some q =>
              refine .inr fun e => ?_
              have h1 := (hown4.lt q hv).2
              have h2 := (hown5.lt q e.symm).1
              omega
          have hb06 := fun (o : Obj) (w6 : World) (hg : (w5.alloc o).grownBy w6 (Value.slice A5 (vb (zg m)).length c5).ownBlock) => below_app hb05 (own_base hown5 hb04.size) (hb05.size) hg
          clear r4
          go_wp2_with (first
            | (at_builtin
               refine wpList_append_any _ rfl (.tmp 55) (.tmp 58) _ rfl w4.heap.size 5 i0 _ 1 1 Tryz.underlying25 hi0 hz0 hz1 hz2 rfl (by omega) (.slice A5 (vb (zg m)).length c5) (vb (zg m)).length (bs (vb (zg m))) rfl
                 (hown5.alloc _) (w5.heap.size + 1) (some ⟨w5.heap.size, 0, none⟩) 1 1 [.int .u8 (K : Int)] rfl (Reads.new w5 _ _) (one_int _ _) (by unfold maxLen; omega) (by omega) (by simp; omega) ?_
               intro v6 w6 hown6 hg6 hat6
               have o46 := (o45.alloc (.cells #[.int .u8 (K : Int)] 5)).kept hg6 hne
               have hb6 := hb06 _ _ hg6
               have r6 := Reads.of_own o46)
            | (at_builtin
               refine wpList_append_any _ rfl (.tmp 59) (.tmp 60) _ rfl w4.heap.size 5 i0 _ 1 1 Tryz.underlying25 hi0 hz0 hz1 hz2 rfl (by omega) v6 ((vb (zg m)).length + 1) (bs (vb (zg m)) ++ [.int .u8 (K : Int)]) rfl
                 hown6 w6.heap.size A4 (packB K D).length c4 (bs (packB K D)) rfl r6 (bs_one _) (by unfold maxLen; omega) (by omega) (by have := hg6.size; simp at this; omega) ?_
               intro v7 w7 hown7 hg7 hat7))
          go_ret
          have hb7 := hb6.grown hg7 hb6.size (fun q hq => by have := (hown6.lt q hq).1; have := hb04.size; omega)
          have hd : bs (vb (zg m)) ++ [.int .u8 (K : Int)] ++ bs (packB K D) = bs (fo l) := by
            rw [HD.out, bs_append, bs_append]; rfl
          have hdl2 : (vb (zg m)).length + 1 + (packB K D).length = (fo l).length := by
            rw [HD.out, List.length_append, List.length_append]; rfl
          rw [hd, hdl2] at hown7
          exact ⟨v7, rfl, own_base hown7 hb04.size, hb7⟩
theorem refFo_any (A : Option Addr) (n c : Nat) (l : List Int) (w : World) (hr : Reads w w.heap.size 1 A n (zs l)) (hl : ∀ x ∈ l, In64 x) (hn : n ≤ 65536) :
    Calls Tryz.prog 67 #[.slice A n c] w (New w (bs (fo l)) (fo l).length) := by
  have e1 : l.length = n := by have := hr.1; rw [zs_length] at this; omega
  rcases Nat.eq_zero_or_pos n with h0 | h0
  · subst h0
    rw [List.eq_nil_of_length_eq_zero e1]
    exact refFo_nil A c w
  · exact refFo_main A n c l w hr hl h0 hn
end Go.Proofs.YthlfplljbbnaoaaGreatDoor
