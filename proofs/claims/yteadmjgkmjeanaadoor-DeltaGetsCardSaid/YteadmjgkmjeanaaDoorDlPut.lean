/- Contract of package delta's Put: the form of steps in new memory, or ErrLimit. -/
import Derived.Test.YteadmjgkmjeanaaDoorDlSteps
import Derived.Test.YteadmjgkmjeanaaDoorJ16
import Derived.Test.YteadmjgkmjeanaaDoorJ19
namespace Go.Proofs.YteadmjgkmjeanaaDoor
open Go.RowKit
set_option linter.unusedVariables false
set_option linter.unusedSimpArgs false
set_option maxRecDepth 100000

theorem IsB.nil_ (w : World) : IsB w (.slice none 0 0) [] := ⟨none, 0, rfl, Reads.none_⟩
theorem three_parts (w : World) (t : TypeId) (v1 v2 v3 : Value) (l1 l2 l3 : List Nat) (h1 : IsB w v1 l1) (h2 : IsB w v2 l2) (h3 : IsB w v3 l3) :
    LL (w.alloc (.cells #[v1, v2, v3] t)) (some ⟨w.heap.size, 0, none⟩) [l1, l2, l3] := by
  have hb : Below w.heap.size w (w.alloc (.cells #[v1, v2, v3] t)) := (Below.refl _ _).alloc (Nat.le_refl _) _
  exact ⟨[v1, v2, v3], reads_blk (Blk.new w t #[v1, v2, v3]) _ 3 _ (by simp) rfl rfl, h1.next hb, h2.next hb, h3.next hb, trivial⟩
theorem steps_n (A : Option Addr) (n c : Nat) (l : List Int) (w : World) (hr : Reads w w.heap.size 1 A n (zs l)) (hn : n ≤ 17592186044416) :
    Calls Tryd.prog 11 #[.slice A n c] w fun e w' => ∃ A' c', e = .returned (.slice A' n c') ∧ n ≤ c' ∧ c' ≤ maxLen ∧ Reads w' w'.heap.size 1 A' n (zs (stp 0 l)) ∧ Below w.heap.size w w' := by
  have e1 : l.length = n := by have := hr.1; rw [zs_length] at this; omega
  refine (steps_any A n c l w hr hn).mono ?_
  intro e w' h
  obtain ⟨A', c', rfl, h1, h2, h3, h4⟩ := h.opened
  rw [stp_length, e1] at h1 h3 ⊢
  exact ⟨A', c', rfl, h1, h2, h3, h4⟩
theorem dlPut_no (A : Option Addr) (n c : Nat) (w : World) (hn : 65536 < n) :
    Calls Tryd.prog 9 #[.slice A n c] w (NewE w [] 12) := by
  go_enter Tryd.func9, Tryd.ntmps9
  go_wp2_with fail
  go_ret2
  exact ⟨.slice none 0 0, rfl, own_nil _ _ _ _, Below.refl _ _⟩
set_option maxHeartbeats 1000000 in
theorem dlPut_nil (A : Option Addr) (c : Nat) (w : World) (hr : Reads w w.heap.size 1 A 0 (zs [])) :
    Calls Tryd.prog 9 #[.slice A 0 c] w (NewE w (dl []) 0) := by
  go_enter Tryd.func9, Tryd.ntmps9
  go_wp2_with fail
  refine (steps_n A 0 c [] w hr (by omega)).mono ?_
  rintro e w1 ⟨A1, c1, rfl, hc1, hm1, r1, hb1⟩
  go_wp2_with fail
  refine (concat_any (some ⟨w1.heap.size, 0, none⟩) 3 3 [[], [], []] _ (three_parts w1 _ _ _ _ [] [] [] (IsB.nil_ w1) (IsB.nil_ w1) (IsB.nil_ w1)) rfl (by omega) (by simp)).mono ?_
  rintro e w2 ⟨v, rfl, hown, hb⟩
  go_wp2_with fail
  go_ret2
  have hb2 : Below w.heap.size w (w1.alloc (.cells #[.slice none 0 0, .slice none 0 0, .slice none 0 0] 22)) := hb1.alloc hb1.size _
  exact ⟨v, rfl, own_base hown hb2.size, hb2.trans (hb.mono hb2.size)⟩
set_option maxHeartbeats 1000000 in
theorem dlPut_one (A : Option Addr) (c : Nat) (z : Int) (w : World) (hr : Reads w w.heap.size 1 A 1 (zs [z])) (hz : In64 z) :
    Calls Tryd.prog 9 #[.slice A 1 c] w (NewE w (dl [z]) 0) := by
  have hs : stp 0 [z] = [z] := by simp only [stp]; rw [show z - 0 = z by omega, w64_id hz]
  have hzg := (zg_int hz).2
  have hvl := vb_length (zg z)
  go_enter Tryd.func9, Tryd.ntmps9
  go_wp2_with fail
  refine (steps_n A 1 c [z] w hr (by omega)).mono ?_
  rintro e w1 ⟨A1, c1, rfl, hc1, hm1, r1, hb1⟩
  rw [hs] at r1
  obtain ⟨ad, u, rfl, _, hu, hc⟩ := r1.at_ (show 0 < 1 by omega)
  have hu' : u = .int .i64 z := by simpa [zs] using hu.symm
  subst hu'
  have hc0 : w1.cell? ad = some (.int .i64 z) := by simpa [Addr.add] using hc
  clear hu hs hc
  go_wp2_with fail
  refine (zigN_any z w1 hz).mono ?_
  rintro e w' ⟨rfl, rfl⟩
  go_wp2_with fail
  refine (putVar_any none 0 0 (zg z) [] w1 hzg Reads.none_ (by simp) (by omega)).mono ?_
  intro e2 w2 hN2
  obtain ⟨A2, c2, rfl, _, hr2, hb2⟩ := hN2.opened
  rw [Nat.zero_add, List.nil_append] at hr2
  simp only [Nat.zero_add]
  have hb02 := hb1.trans (hb2.mono hb1.size)
  clear hN2
  go_wp2_with fail
  refine (concat_any (some ⟨w2.heap.size, 0, none⟩) 3 3 [vb (zg z), [], []] _ (three_parts w2 _ _ _ _ (vb (zg z)) [] [] ⟨A2, c2, rfl, hr2⟩ (IsB.nil_ w2) (IsB.nil_ w2)) rfl (by omega) (by simp; omega)).mono ?_
  rintro e w3 ⟨v, rfl, hown, hb⟩
  go_wp2_with fail
  go_ret2
  have hb3 : Below w.heap.size w (w2.alloc (.cells #[.slice A2 (vb (zg z)).length c2, .slice none 0 0, .slice none 0 0] 22)) := hb02.alloc hb02.size _
  have hd : dl [z] = [vb (zg z), [], []].flatten := by simp [dl, dl1, dl2, dl3]
  rw [hd]
  exact ⟨v, rfl, own_base hown hb3.size, hb3.trans (hb.mono hb3.size)⟩
theorem dl_two (z y : Int) (r : List Int) : dl (z :: y :: r) = [vb (zg z), [wd (zb (z :: y :: r))], packB (wd (zb (z :: y :: r))) (zb (z :: y :: r))].flatten := by
  simp [dl, dl1, dl2, dl3]
set_option maxHeartbeats 2000000 in
theorem dlPut_two (A : Option Addr) (n c : Nat) (z y : Int) (r : List Int) (w : World) (hr : Reads w w.heap.size 1 A n (zs (z :: y :: r))) (hl : ∀ x ∈ z :: y :: r, In64 x) (hn : n ≤ 65536) :
    Calls Tryd.prog 9 #[.slice A n c] w (NewE w (dl (z :: y :: r)) 0) := by
  have e1 : n = r.length + 2 := by have := hr.1; rw [zs_length] at this; simp at this; omega
  have hz := hl z (by simp)
  have hzg := (zg_int hz).2
  have hvl := vb_length (zg z)
  have hs0 : (zs (stp 0 (z :: y :: r)))[0]? = some (.int .i64 z) := by simp only [stp]; rw [show z - 0 = z by omega, w64_id hz]; simp [zs]
  have hdl := (dl_parts (z :: y :: r)).2.2 (by simp; omega)
  have hdt : dl3 (z :: y :: r) = packB (wd (zb (z :: y :: r))) (zb (z :: y :: r)) := by simp [dl3]
  have hzl : (zb (z :: y :: r)).length = n - 1 := by rw [zb_length]; simp; omega
  have hin := stp_in (z :: y :: r) 0
  have hw64 := wd_zb (z :: y :: r)
  have hzlt := zb_lt (z :: y :: r)
  have HD := Lib.hid (dl_two z y r)
  have hzb : ((stp 0 (z :: y :: r)).drop 1).map zg = zb (z :: y :: r) := rfl
  rw [hdt] at hdl
  obtain ⟨S, hS⟩ : ∃ S, S = stp 0 (z :: y :: r) := ⟨_, rfl⟩
  obtain ⟨Z, hZ⟩ : ∃ Z, Z = zb (z :: y :: r) := ⟨_, rfl⟩
  obtain ⟨K, hK⟩ : ∃ K, K = wd Z := ⟨_, rfl⟩
  have hst := steps_n A n c (z :: y :: r) w hr (by omega)
  rw [← hS] at hst hs0 hzb hin
  rw [← hZ] at HD hzl hzb hzlt hdl hw64
  rw [← hK] at HD hdl hw64
  have HK := Lib.hid hK; have HZ := Lib.hid hzb; have HIN := Lib.hid hin; have HLT := Lib.hid hzlt; have HST := Lib.hid hst; have HZL := Lib.hid hzl
  have q1 : ((n : Int) == 1) = false := by simp; omega
  have q0 : ((n : Int) == 0) = false := by simp; omega
  have h2n : 2 ≤ n := by omega
  clear hK hzb hin hzlt hst hzl hS hZ hdt e1 hl hr
  go_enter Tryd.func9, Tryd.ntmps9
  go_wp2_with fail
  refine HST.out.mono ?_
  rintro e w1 ⟨A1, c1, rfl, hc1, hm1, r1, hb1⟩
  have hcut := r1.cut (k := 1) (cap := c1) (by omega) hc1
  obtain ⟨ad, u, rfl, _, hu, hc⟩ := r1.at_ (show 0 < n by omega)
  have hu' : u = .int .i64 z := by rw [hs0] at hu; exact (Option.some.inj hu).symm
  subst hu'
  have hne : ¬ c1 = 1 := by omega
  rw [if_neg hne] at hcut
  simp only [Nat.one_mul] at hcut
  rw [show (zs S).drop 1 = zs (S.drop 1) by simp [zs]] at hcut
  have hcc : ∀ w', Reads w' w'.heap.size 1 (some ad) n (zs S) → w'.cell? ad = some (.int .i64 z) := fun w' h => by
    obtain ⟨ad', e, _, hcell⟩ := h.2 (by omega)
    injection e with e
    subst e
    simpa [Addr.add] using hcell 0 _ hs0
  have HCC := Lib.hid hcc
  clear hu hs0 hc hcc
  go_wp2_with fail
  refine (zigs_any _ (n - 1) _ (S.drop 1) w1 hcut (fun x hx => HIN.out x (List.mem_of_mem_drop hx)) (by omega)).mono ?_
  rw [HZ.out]
  rintro e w2 ⟨v2, rfl, hown2, hb2⟩
  obtain ⟨A2, c2, rfl, hc2, _, r2⟩ := own_slice hown2
  go_wp2_with fail
  refine (width_any A2 (n - 1) c2 Z w2 r2 HLT.out (by omega)).mono ?_
  rintro e w' ⟨rfl, rfl⟩
  rw [← HK.out]
  go_wp2_with fail
  refine (pack_ok A2 (n - 1) c2 Z _ K rfl w2 r2 HLT.out (by omega) (by omega) (by rw [HK.out]; exact Nat.le_refl _)).mono ?_
  rintro e w3 ⟨v3, rfl, hown3, hb3⟩
  obtain ⟨A3, c3, rfl, _, _, r3⟩ := own_slice hown3
  have r13 := (r1.next hb2).next hb3
  have hb03 := (hb1.trans (hb2.mono hb1.size)).trans (hb3.mono (hb1.trans (hb2.mono hb1.size)).size)
  have r14 : Reads (w3.alloc (.cells #[.int .u8 (K : Int)] 5)) (w3.alloc (.cells #[.int .u8 (K : Int)] 5)).heap.size 1 (some ad) n (zs S) := r13.next ((Below.refl _ _).alloc (Nat.le_refl _) _)
  have hcw := HCC.out _ r14
  have hb04 : Below w.heap.size w (w3.alloc (.cells #[.int .u8 (K : Int)] 5)) := hb03.alloc hb03.size _
  have i2 : IsB (w3.alloc (.cells #[.int .u8 (K : Int)] 5)) (.slice (some ⟨w3.heap.size, 0, none⟩) 1 1) [K] := ⟨_, 1, rfl, reads_blk (Blk.new w3 _ _) _ 1 _ (by simp) rfl rfl⟩
  have i3 : IsB (w3.alloc (.cells #[.int .u8 (K : Int)] 5)) (.slice A3 (packB K Z).length c3) (packB K Z) := ⟨A3, c3, rfl, r3.next ((Below.refl _ _).alloc (Nat.le_refl _) _)⟩
  clear r13 r14 HCC hb03 r3 hown3 hown2 r2 hb2 hb3 r1 hcut
  go_wp2_with fail
  refine (zigN_any z _ hz).mono ?_
  rintro e w' ⟨rfl, rfl⟩
  go_wp2_with fail
  refine (putVar_any none 0 0 (zg z) [] _ hzg Reads.none_ (by simp) (by omega)).mono ?_
  intro e5 w5 hN5
  obtain ⟨A5, c5, rfl, _, hr5, hb5⟩ := hN5.opened
  rw [Nat.zero_add, List.nil_append] at hr5
  simp only [Nat.zero_add]
  have hb05 := hb04.trans (hb5.mono hb04.size)
  have j2 := i2.next hb5
  have j3 := i3.next hb5
  clear hN5 i2 i3 hcw
  go_wp2_with fail
  refine (concat_any (some ⟨w5.heap.size, 0, none⟩) 3 3 [vb (zg z), [K], packB K Z] _ (three_parts w5 _ _ _ _ (vb (zg z)) [K] (packB K Z) ⟨A5, c5, rfl, hr5⟩ j2 j3) rfl (by omega) (by simp; omega)).mono ?_
  rintro e w6 ⟨v, rfl, hown, hb⟩
  go_wp2_with fail
  go_ret2
  have hb6 := hb05.alloc hb05.size (.cells #[.slice A5 (vb (zg z)).length c5, .slice (some ⟨w3.heap.size, 0, none⟩) 1 1, .slice A3 (packB K Z).length c3] 22)
  rw [HD.out]
  exact ⟨v, rfl, own_base hown hb6.size, hb6.trans (hb.mono hb6.size)⟩
theorem dlPut_any (A : Option Addr) (n c : Nat) (l : List Int) (w : World) (hr : Reads w w.heap.size 1 A n (zs l)) (hl : ∀ x ∈ l, In64 x) (hn : n ≤ 65536) :
    Calls Tryd.prog 9 #[.slice A n c] w (NewE w (dl l) 0) := by
  have e1 : n = l.length := by have := hr.1; rw [zs_length] at this; omega
  match l, hr, hl, e1 with
  | [], hr, _, e1 => subst e1; exact dlPut_nil A c w hr
  | [z], hr, hl, e1 => subst e1; exact dlPut_one A c z w hr (hl z (by simp))
  | z :: y :: r, hr, hl, _ => exact dlPut_two A n c z y r w hr hl hn
end Go.Proofs.YteadmjgkmjeanaaDoor
