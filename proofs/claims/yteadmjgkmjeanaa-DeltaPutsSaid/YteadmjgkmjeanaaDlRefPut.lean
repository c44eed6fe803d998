/- The document's form of steps. -/
import Derived.Test.YteadmjgkmjeanaaDlRef
import Derived.Test.YteadmjgkmjeanaaRefZigN
import Derived.Test.YteadmjgkmjeanaaRefPVar
import Derived.Test.YteadmjgkmjeanaaRefPack
import Derived.Test.YteadmjgkmjeanaaPackOk
import Derived.Test.YteadmjgkmjeanaaOpened
namespace Go.Proofs.Yteadmjgkmjeanaa
open Go.RowKit
set_option linter.unusedVariables false
set_option linter.unusedSimpArgs false
set_option maxRecDepth 100000

theorem refPack_fit (A : Option Addr) (n c : Nat) (l : List Nat) (kI : Int) (k : Nat) (hkI : kI = (k : Int)) (w : World) (hr : Reads w w.heap.size 1 A n (us l)) (hl : ∀ a ∈ l, a < 18446744073709551616) (hn : n ≤ 65536) (hk : k ≤ 64) (hd : wd l ≤ k) :
    Calls Try.prog 23 #[.slice A n c, .int .i64 kI] w (NewE w (packB k l) 0) := by
  subst hkI
  have e1 : l.length = n := by have := hr.1; rw [us_length] at this; omega
  have h := refPack_any A n c l (k : Int) w hr hl (by omega) (by omega)
  obtain ⟨h1, h2⟩ := packE_ok l k (by omega) hk hd
  rwa [h1, h2] at h
theorem refDl_nil (A : Option Addr) (c : Nat) (w : World) (hr : Reads w w.heap.size 1 A 0 (zs [])) :
    Calls Try.prog 8 #[.slice A 0 c] w (New w (bs (dl [])) (dl []).length) := by
  go_enter Try.func8, Try.ntmps8
  go_wp2_with fail
  refine (refSteps_any A 0 c [] w hr (by simp) (Nat.zero_le _) (by omega)).mono ?_
  rintro e w1 ⟨v1, rfl, hown1, hb1⟩
  obtain ⟨A1, c1, rfl, _, _, r1⟩ := own_slice hown1
  go_wp2_with fail
  go_ret
  exact ⟨.slice none 0 0, rfl, own_nil _ _ _ _, hb1⟩
set_option maxHeartbeats 1000000 in
theorem refDl_one (A : Option Addr) (c : Nat) (z : Int) (w : World) (hr : Reads w w.heap.size 1 A 1 (zs [z])) (hz : In64 z) (hc : 1 ≤ c) :
    Calls Try.prog 8 #[.slice A 1 c] w (New w (bs (dl [z])) (dl [z]).length) := by
  have hs : stp 0 [z] = [z] := by simp only [stp]; rw [show z - 0 = z by omega, w64_id hz]
  have hzg := (zg_int hz).2
  go_enter Try.func8, Try.ntmps8
  go_wp2_with fail
  refine (refSteps_any A 1 c [z] w hr (by simpa using hz) hc (by omega)).mono ?_
  rintro e w1 ⟨v1, rfl, hown1, hb1⟩
  rw [hs] at hown1
  obtain ⟨A1, c1, rfl, _, _, r1⟩ := own_slice hown1
  obtain ⟨ad, u, rfl, _, hu, hcl⟩ := r1.at_ (show 0 < 1 by omega)
  have hu' : u = .int .i64 z := by simpa [zs] using hu.symm
  subst hu'
  have hc0 : w1.cell? ad = some (.int .i64 z) := by simpa [Addr.add] using hcl
  clear hu hs hcl
  go_wp2_with fail
  refine (refZigN_any z w1 hz).mono ?_
  rintro e w' ⟨rfl, rfl⟩
  go_wp2_with fail
  refine (refVar_any (zg z) w1 hzg).mono ?_
  rintro e2 w2 ⟨v2, rfl, hown2, hb2⟩
  go_wp2_with fail
  go_ret
  have hd : dl [z] = vb (zg z) := by simp [dl, dl1, dl2, dl3]
  rw [hd]
  exact ⟨_, rfl, own_base hown2 hb1.size, hb1.trans (hb2.mono hb1.size)⟩
set_option maxHeartbeats 2000000 in
theorem refDl_two (A : Option Addr) (n c : Nat) (z y : Int) (r : List Int) (w : World) (hr : Reads w w.heap.size 1 A n (zs (z :: y :: r))) (hl : ∀ x ∈ z :: y :: r, In64 x) (hnc : n ≤ c) (hn : n ≤ 65536) :
    Calls Try.prog 8 #[.slice A n c] w (New w (bs (dl (z :: y :: r))) (dl (z :: y :: r)).length) := by
  obtain ⟨i0, hi0, hz0, hz1, hz2⟩ := info_parts info_u8
  obtain ⟨i1, hi1, hy0, hy1, hy2⟩ := info_parts info_u64
  have e1 : n = r.length + 2 := by have := hr.1; rw [zs_length] at this; simp at this; omega
  have hz := hl z (by simp)
  have hzg := (zg_int hz).2
  have hvl := vb_length (zg z)
  have hs0 : (stp 0 (z :: y :: r))[0]? = some z := by simp only [stp]; rw [show z - 0 = z by omega, w64_id hz]; simp
  have hdl := (dl_parts (z :: y :: r)).2.2 (by simp; omega)
  have hdt : dl3 (z :: y :: r) = packB (wd (zb (z :: y :: r))) (zb (z :: y :: r)) := by simp [dl3]
  have hdw : dl2 (z :: y :: r) = [wd (zb (z :: y :: r))] := by simp [dl2]
  have HD : Hid (dl (z :: y :: r) = vb (zg z) ++ dl2 (z :: y :: r) ++ dl3 (z :: y :: r)) := Lib.hid rfl
  have hzl : (zb (z :: y :: r)).length = n - 1 := by rw [zb_length]; simp; omega
  have hsl : (stp 0 (z :: y :: r)).length = n := by rw [stp_length]; simp; omega
  have hin := stp_in (z :: y :: r) 0
  have hw64 := wd_zb (z :: y :: r)
  have hzlt := zb_lt (z :: y :: r)
  have hzb : ((stp 0 (z :: y :: r)).drop 1).map zg = zb (z :: y :: r) := rfl
  rw [hdt] at hdl HD
  rw [hdw] at HD
  obtain ⟨S, hS⟩ : ∃ S, S = stp 0 (z :: y :: r) := ⟨_, rfl⟩
  obtain ⟨Z, hZ⟩ : ∃ Z, Z = zb (z :: y :: r) := ⟨_, rfl⟩
  obtain ⟨K, hK⟩ : ∃ K, K = wd Z := ⟨_, rfl⟩
  have hst := refSteps_any A n c (z :: y :: r) w hr hl hnc hn
  rw [← hS] at hst hs0 hzb hin hsl
  rw [← hZ] at HD hzl hzb hzlt hdl hw64
  rw [← hK] at HD hdl hw64
  have HK := Lib.hid hK; have HZ := Lib.hid hzb; have HIN := Lib.hid hin; have HLT := Lib.hid hzlt; have HST := Lib.hid hst; have HZL := Lib.hid hzl; have HSL := Lib.hid hsl
  have q1 : ((n : Int) == 1) = false := by simp; omega
  have q0 : ((n : Int) == 0) = false := by simp; omega
  have h2n : 2 ≤ n := by omega
  clear hK hzb hin hzlt hst hzl hS hZ hdt hdw e1 hl hr hsl
  go_enter Try.func8, Try.ntmps8
  go_wp2_with fail
  refine HST.out.mono ?_
  rintro e w1 ⟨v1, rfl, hown1, hb1⟩
  obtain ⟨A1, c1, rfl, hc1, _, r1⟩ := own_slice hown1
  obtain ⟨ad, u, rfl, _, hu, hcl⟩ := r1.at_ (show 0 < n by omega)
  have hu' : u = .int .i64 z := by rw [zs_some' hs0] at hu; exact (Option.some.inj hu).symm
  subst hu'
  have hc0 : w1.cell? ad = some (.int .i64 z) := by simpa [Addr.add] using hcl
  clear hu hs0 hcl
  go_wp2_with fail
  refine (refZigN_any z w1 hz).mono ?_
  rintro e w' ⟨rfl, rfl⟩
  go_wp2_with fail
  refine (refVar_any (zg z) w1 hzg).mono ?_
  rintro e2 w2 ⟨v2, rfl, hown2, hb2⟩
  obtain ⟨A2, c2, rfl, _, _, r2⟩ := own_slice hown2
  have r12 := r1.next hb2
  have hb02 := hb1.trans (hb2.mono hb1.size)
  clear hc0 r1 hown1 r2
  go_wp2_with fail
  go_loopw [5, 6] (fun s5 s6 wr => ∃ k j : Nat, k ≤ n ∧ 1 ≤ k ∧ Hid (k = j + 1) ∧ s6 = .int .i64 (k : Int) ∧ wr.ownsRow w2.heap.size 34 1 s5 j (us (Z.take j)) ∧ Below w2.heap.size w2 wr) (fun _ i _ => n - (intOf i).toNat)
  case atStart => exact ⟨1, 0, by omega, Nat.le_refl _, Lib.hid rfl, rfl, own_nil _ _ _ _, Below.refl _ _⟩
  case round =>
    obtain ⟨k, j, hk, hk1, hkj, rfl, hown, hb⟩ := hrel
    have hsz := hb.size
    by_cases hlt : k < n
    · obtain ⟨ad', u, e', _, hu, hc⟩ := (r12.below hb).at_ hlt
      injection e' with e'
      subst e'
      obtain ⟨x, hx, rfl⟩ := zs_at hu
      have hx64 := HIN.out x (List.mem_of_getElem? hx)
      have hxg := (zg_int hx64).2
      have HS : Hid (Z.take (j + 1) = Z.take j ++ [zg x]) := Lib.hid (by
        rw [List.take_add_one, ← HZ.out, List.getElem?_map, List.getElem?_drop, Nat.add_comm 1 j, ← hkj.out, hx]; rfl)
      have hj : j ≤ 65536 := by have := hkj.out; omega
      clear hu hx
      go_wp2_with fail
      refine (refZigN_any x wr hx64).mono ?_
      rintro e w' ⟨rfl, rfl⟩
      go_wp2_with (at_builtin
                   refine wpList_append_any _ rfl (.tmp 30) (.tmp 36) _ rfl w2.heap.size 34 i1 _ 1 8 Try.underlying37 hi1 hy0 hy1 hy2 rfl (by omega) u5 j (us (Z.take j)) rfl
                     (hown.alloc _) (wr.heap.size + 1) (some ⟨wr.heap.size, 0, none⟩) 1 1 [.int .u64 (zg x : Int)] rfl (Reads.new wr _ _) (one_int _ _) (by unfold maxLen; omega) (by omega) (by simp; omega) ?_
                   intro v4 w4 hown4 hg4 hat4)
      go_round
      case rel =>
        refine ⟨k + 1, j + 1, by omega, by omega, Lib.hid (by rw [hkj.out]), by go_num, ?_, below_app hb hown hsz hg4⟩
        have h1 := us_snoc [] (Z.take j) (zg x) (zg x : Int) rfl
        simp only [List.nil_append] at h1
        rw [HS.out, ← h1]
        exact hown4
      case measure => simp [intOf]; omega
    · obtain rfl : k = n := by omega
      have hj : j = k - 1 := by have := hkj.out; omega
      rw [List.take_of_length_le (by rw [HZL.out]; omega)] at hown
      subst hj
      obtain ⟨A3, c3, rfl, _, _, r3⟩ := own_slice hown
      have o2 := own_below hown2 hb
      have hb03 := hb02.trans (hb.mono hb02.size)
      clear hkj hown r12
      go_wp2_with fail
      refine (refWidth_any A3 (k - 1) c3 Z wr r3 HLT.out (by omega)).mono ?_
      rintro e w' ⟨rfl, rfl⟩
      rw [← HK.out]
      go_wp2_with fail
      refine (refPack_fit A3 (k - 1) c3 Z _ K rfl wr r3 HLT.out (by omega) (by omega) (by rw [HK.out]; exact Nat.le_refl _)).mono ?_
      rintro e w4 ⟨v4, rfl, hown4, hb4⟩
      obtain ⟨A4, c4, rfl, _, _, _⟩ := own_slice hown4
      have o24 := own_below o2 hb4
      have hb04 := hb03.trans (hb4.mono hb03.size)
      have t2 := hb2.size
      have t3 := hb.size
      have t4 := hb4.size
      have t0 := hb02.size
      have t1 := hb1.size
      have hne : (Value.slice A4 (packB K Z).length c4).ownBlock = none ∨ (Value.slice A4 (packB K Z).length c4).ownBlock ≠ (Value.slice A2 (vb (zg z)).length c2).ownBlock := by
        cases hv : (Value.slice A4 (packB K Z).length c4).ownBlock with
        | none => exact .inl rfl
        | some q =>
          refine .inr fun e => ?_
          have h1 := (hown4.lt q hv).1
          have h2 := (hown2.lt q e.symm).2
          omega
      have hb05 := fun (o : Obj) (w5 : World) (hg : (w4.alloc o).grownBy w5 (Value.slice A2 (vb (zg z)).length c2).ownBlock) => below_app hb04 (own_base o24 t1) (hb04.size) hg
      clear o2 r3
      go_wp2_with (first
        | (at_builtin
           refine wpList_append_any _ rfl (.tmp 46) (.tmp 49) _ rfl w1.heap.size 5 i0 _ 1 1 Try.underlying24 hi0 hz0 hz1 hz2 rfl (by omega) (.slice A2 (vb (zg z)).length c2) (vb (zg z)).length (bs (vb (zg z))) rfl
             (o24.alloc _) (w4.heap.size + 1) (some ⟨w4.heap.size, 0, none⟩) 1 1 [.int .u8 (K : Int)] rfl (Reads.new w4 _ _) (one_int _ _) (by unfold maxLen; omega) (by omega) (by simp; omega) ?_
           intro v5 w5 hown5 hg5 hat5
           have o45 := (hown4.alloc (.cells #[.int .u8 (K : Int)] 5)).kept hg5 hne
           have hb5 := hb05 _ _ hg5
           have r4 := Reads.of_own o45)
        | (at_builtin
           refine wpList_append_any _ rfl (.tmp 50) (.tmp 51) _ rfl w1.heap.size 5 i0 _ 1 1 Try.underlying24 hi0 hz0 hz1 hz2 rfl (by omega) v5 ((vb (zg z)).length + 1) (bs (vb (zg z)) ++ [.int .u8 (K : Int)]) rfl
             hown5 w5.heap.size A4 (packB K Z).length c4 (bs (packB K Z)) rfl r4 (bs_one _) (by unfold maxLen; omega) (by omega) (by have := hg5.size; simp at this; omega) ?_
           intro v6 w6 hown6 hg6 hat6))
      go_ret
      have hb6 := hb5.grown hg6 hb5.size (fun q hq => by have := (hown5.lt q hq).1; omega)
      have hd : bs (vb (zg z)) ++ [.int .u8 (K : Int)] ++ bs (packB K Z) = bs (dl (z :: y :: r)) := by
        rw [HD.out, bs_append, bs_append]; rfl
      have hdl2 : (vb (zg z)).length + 1 + (packB K Z).length = (dl (z :: y :: r)).length := by
        rw [HD.out, List.length_append, List.length_append]; rfl
      rw [hd, hdl2] at hown6
      exact ⟨v6, rfl, own_base hown6 hb1.size, hb6⟩
theorem refDl_any (A : Option Addr) (n c : Nat) (l : List Int) (w : World) (hr : Reads w w.heap.size 1 A n (zs l)) (hl : ∀ x ∈ l, In64 x) (hnc : n ≤ c) (hn : n ≤ 65536) :
    Calls Try.prog 8 #[.slice A n c] w (New w (bs (dl l)) (dl l).length) := by
  have e1 : n = l.length := by have := hr.1; rw [zs_length] at this; omega
  match l, hr, hl, e1 with
  | [], hr, _, e1 => subst e1; exact refDl_nil A c w hr
  | [z], hr, hl, e1 => subst e1; exact refDl_one A c z w hr (hl z (by simp)) hnc
  | z :: y :: r, hr, hl, _ => exact refDl_two A n c z y r w hr hl hnc hn
end Go.Proofs.Yteadmjgkmjeanaa
