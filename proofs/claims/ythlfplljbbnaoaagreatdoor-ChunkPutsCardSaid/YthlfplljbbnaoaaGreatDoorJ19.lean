/- Texts joined: DlPut Sort SortZ. -/
import Derived.Test.YthlfplljbbnaoaaGreatDoorJ17
import Derived.Test.YthlfplljbbnaoaaGreatDoorJ18
import Derived.Test.YthlfplljbbnaoaaGreatDoorJ14
import Derived.Test.YthlfplljbbnaoaaGreatDoorJ9
import Derived.Shelf.SortM.Plain
import Derived.Shelf.SortM.SortNone
import Derived.Ground.SlgmProg
import Derived.Test.YthlfplljbbnaoaaGreatDoorProg
import Derived.Sort.OwnSortedInts
/- Contract of package delta's Put: the form of steps in new memory, or ErrLimit. -/
namespace Go.Proofs.YthlfplljbbnaoaaGreatDoor
open Go.RowKit
set_option linter.unusedVariables false
set_option linter.unusedSimpArgs false
set_option maxRecDepth 100000

theorem steps_n (A : Option Addr) (n c : Nat) (l : List Int) (w : World) (hr : Reads w w.heap.size 1 A n (zs l)) (hn : n ≤ 17592186044416) :
    Calls Tryz.prog 94 #[.slice A n c] w fun e w' => ∃ A' c', e = .returned (.slice A' n c') ∧ n ≤ c' ∧ c' ≤ maxLen ∧ Reads w' w'.heap.size 1 A' n (zs (stp 0 l)) ∧ Below w.heap.size w w' := by
  have e1 : l.length = n := by have := hr.1; rw [zs_length] at this; omega
  refine (steps_any A n c l w hr hn).mono ?_
  intro e w' h
  obtain ⟨A', c', rfl, h1, h2, h3, h4⟩ := h.opened
  rw [stp_length, e1] at h1 h3 ⊢
  exact ⟨A', c', rfl, h1, h2, h3, h4⟩
theorem dlPut_no (A : Option Addr) (n c : Nat) (w : World) (hn : 65536 < n) :
    Calls Tryz.prog 48 #[.slice A n c] w (NewE w [] 12) := by
  go_enter Tryz.func48, Tryz.ntmps48
  go_wp2_with fail
  go_ret2
  exact ⟨.slice none 0 0, rfl, own_nil _ _ _ _, Below.refl _ _⟩
set_option maxHeartbeats 1000000 in
theorem dlPut_nil (A : Option Addr) (c : Nat) (w : World) (hr : Reads w w.heap.size 1 A 0 (zs [])) :
    Calls Tryz.prog 48 #[.slice A 0 c] w (NewE w (dl []) 0) := by
  go_enter Tryz.func48, Tryz.ntmps48
  go_wp2_with fail
  refine (steps_n A 0 c [] w hr (by omega)).mono ?_
  rintro e w1 ⟨A1, c1, rfl, hc1, hm1, r1, hb1⟩
  go_wp2_with fail
  refine (concat_any (some ⟨w1.heap.size, 0, none⟩) 3 3 [[], [], []] _ (three_parts w1 _ _ _ _ [] [] [] (IsB.nil_ w1) (IsB.nil_ w1) (IsB.nil_ w1)) rfl (by omega) (by simp)).mono ?_
  rintro e w2 ⟨v, rfl, hown, hb⟩
  go_wp2_with fail
  go_ret2
  have hb2 : Below w.heap.size w (w1.alloc (.cells #[.slice none 0 0, .slice none 0 0, .slice none 0 0] 25)) := hb1.alloc hb1.size _
  exact ⟨v, rfl, own_base hown hb2.size, hb2.trans (hb.mono hb2.size)⟩
set_option maxHeartbeats 1000000 in
theorem dlPut_one (A : Option Addr) (c : Nat) (z : Int) (w : World) (hr : Reads w w.heap.size 1 A 1 (zs [z])) (hz : In64 z) :
    Calls Tryz.prog 48 #[.slice A 1 c] w (NewE w (dl [z]) 0) := by
  have hs : stp 0 [z] = [z] := by simp only [stp]; rw [show z - 0 = z by omega, w64_id hz]
  have hzg := (zg_int hz).2
  have hvl := vb_length (zg z)
  go_enter Tryz.func48, Tryz.ntmps48
  go_wp2_with fail
  refine (steps_n A 1 c [z] w hr (by omega)).mono ?_
  rintro e w1 ⟨A1, c1, rfl, hc1, hm1, r1, hb1⟩
  rw [hs] at r1
  obtain ⟨ad, u, rfl, _, hu, hc⟩ := r1.at_ (show 0 < 1 by omega)
  have hu' : u = .int .i64 z := by simpa [zs] using hu.symm
  subst hu'
  have hc0 : w1.cell? ad = some (.int .i64 z) := by simpa [Addr.add] using hc
  clear hu hs hc
  go_wp2_with fail
  refine (zigN_any z w1 hz).mono ?_
  rintro e w' ⟨rfl, rfl⟩
  go_wp2_with fail
  refine (putVar_any none 0 0 (zg z) [] w1 hzg Reads.none_ (by simp) (by omega)).mono ?_
  intro e2 w2 hN2
  obtain ⟨A2, c2, rfl, _, hr2, hb2⟩ := hN2.opened
  rw [Nat.zero_add, List.nil_append] at hr2
  simp only [Nat.zero_add]
  have hb02 := hb1.trans (hb2.mono hb1.size)
  clear hN2
  go_wp2_with fail
  refine (concat_any (some ⟨w2.heap.size, 0, none⟩) 3 3 [vb (zg z), [], []] _ (three_parts w2 _ _ _ _ (vb (zg z)) [] [] ⟨A2, c2, rfl, hr2⟩ (IsB.nil_ w2) (IsB.nil_ w2)) rfl (by omega) (by simp; omega)).mono ?_
  rintro e w3 ⟨v, rfl, hown, hb⟩
  go_wp2_with fail
  go_ret2
  have hb3 : Below w.heap.size w (w2.alloc (.cells #[.slice A2 (vb (zg z)).length c2, .slice none 0 0, .slice none 0 0] 25)) := hb02.alloc hb02.size _
  have hd : dl [z] = [vb (zg z), [], []].flatten := by simp [dl, dl1, dl2, dl3]
  rw [hd]
  exact ⟨v, rfl, own_base hown hb3.size, hb3.trans (hb.mono hb3.size)⟩
theorem dl_two (z y : Int) (r : List Int) : dl (z :: y :: r) = [vb (zg z), [wd (zb (z :: y :: r))], packB (wd (zb (z :: y :: r))) (zb (z :: y :: r))].flatten := by
  simp [dl, dl1, dl2, dl3]
set_option maxHeartbeats 2000000 in
theorem dlPut_two (A : Option Addr) (n c : Nat) (z y : Int) (r : List Int) (w : World) (hr : Reads w w.heap.size 1 A n (zs (z :: y :: r))) (hl : ∀ x ∈ z :: y :: r, In64 x) (hn : n ≤ 65536) :
    Calls Tryz.prog 48 #[.slice A n c] w (NewE w (dl (z :: y :: r)) 0) := by
  have e1 : n = r.length + 2 := by have := hr.1; rw [zs_length] at this; simp at this; omega
  have hz := hl z (by simp)
  have hzg := (zg_int hz).2
  have hvl := vb_length (zg z)
  have hs0 : (zs (stp 0 (z :: y :: r)))[0]? = some (.int .i64 z) := by simp only [stp]; rw [show z - 0 = z by omega, w64_id hz]; simp [zs]
  have hdl := (dl_parts (z :: y :: r)).2.2 (by simp; omega)
  have hdt : dl3 (z :: y :: r) = packB (wd (zb (z :: y :: r))) (zb (z :: y :: r)) := by simp [dl3]
  have hzl : (zb (z :: y :: r)).length = n - 1 := by rw [zb_length]; simp; omega
  have hin := stp_in (z :: y :: r) 0
  have hw64 := wd_zb (z :: y :: r)
  have hzlt := zb_lt (z :: y :: r)
  have HD := Lib.hid (dl_two z y r)
  have hzb : ((stp 0 (z :: y :: r)).drop 1).map zg = zb (z :: y :: r) := rfl
  rw [hdt] at hdl
  obtain ⟨S, hS⟩ : ∃ S, S = stp 0 (z :: y :: r) := ⟨_, rfl⟩
  obtain ⟨Z, hZ⟩ : ∃ Z, Z = zb (z :: y :: r) := ⟨_, rfl⟩
  obtain ⟨K, hK⟩ : ∃ K, K = wd Z := ⟨_, rfl⟩
  have hst := steps_n A n c (z :: y :: r) w hr (by omega)
  rw [← hS] at hst hs0 hzb hin
  rw [← hZ] at HD hzl hzb hzlt hdl hw64
  rw [← hK] at HD hdl hw64
  have HK := Lib.hid hK; have HZ := Lib.hid hzb; have HIN := Lib.hid hin; have HLT := Lib.hid hzlt; have HST := Lib.hid hst; have HZL := Lib.hid hzl
  have q1 : ((n : Int) == 1) = false := by simp; omega
  have q0 : ((n : Int) == 0) = false := by simp; omega
  have h2n : 2 ≤ n := by omega
  clear hK hzb hin hzlt hst hzl hS hZ hdt e1 hl hr
  go_enter Tryz.func48, Tryz.ntmps48
  go_wp2_with fail
  refine HST.out.mono ?_
  rintro e w1 ⟨A1, c1, rfl, hc1, hm1, r1, hb1⟩
  have hcut := r1.cut (k := 1) (cap := c1) (by omega) hc1
  obtain ⟨ad, u, rfl, _, hu, hc⟩ := r1.at_ (show 0 < n by omega)
  have hu' : u = .int .i64 z := by rw [hs0] at hu; exact (Option.some.inj hu).symm
  subst hu'
  have hne : ¬ c1 = 1 := by omega
  rw [if_neg hne] at hcut
  simp only [Nat.one_mul] at hcut
  rw [show (zs S).drop 1 = zs (S.drop 1) by simp [zs]] at hcut
  have hcc : ∀ w', Reads w' w'.heap.size 1 (some ad) n (zs S) → w'.cell? ad = some (.int .i64 z) := fun w' h => by
    obtain ⟨ad', e, _, hcell⟩ := h.2 (by omega)
    injection e with e
    subst e
    simpa [Addr.add] using hcell 0 _ hs0
  have HCC := Lib.hid hcc
  clear hu hs0 hc hcc
  go_wp2_with fail
  refine (zigs_any _ (n - 1) _ (S.drop 1) w1 hcut (fun x hx => HIN.out x (List.mem_of_mem_drop hx)) (by omega)).mono ?_
  rw [HZ.out]
  rintro e w2 ⟨v2, rfl, hown2, hb2⟩
  obtain ⟨A2, c2, rfl, hc2, _, r2⟩ := own_slice hown2
  go_wp2_with fail
  refine (width_any A2 (n - 1) c2 Z w2 r2 HLT.out (by omega)).mono ?_
  rintro e w' ⟨rfl, rfl⟩
  rw [← HK.out]
  go_wp2_with fail
  refine (pack_ok A2 (n - 1) c2 Z _ K rfl w2 r2 HLT.out (by omega) (by omega) (by rw [HK.out]; exact Nat.le_refl _)).mono ?_
  rintro e w3 ⟨v3, rfl, hown3, hb3⟩
  obtain ⟨A3, c3, rfl, _, _, r3⟩ := own_slice hown3
  have r13 := (r1.next hb2).next hb3
  have hb03 := (hb1.trans (hb2.mono hb1.size)).trans (hb3.mono (hb1.trans (hb2.mono hb1.size)).size)
  have r14 : Reads (w3.alloc (.cells #[.int .u8 (K : Int)] 5)) (w3.alloc (.cells #[.int .u8 (K : Int)] 5)).heap.size 1 (some ad) n (zs S) := r13.next ((Below.refl _ _).alloc (Nat.le_refl _) _)
  have hcw := HCC.out _ r14
  have hb04 : Below w.heap.size w (w3.alloc (.cells #[.int .u8 (K : Int)] 5)) := hb03.alloc hb03.size _
  have i2 : IsB (w3.alloc (.cells #[.int .u8 (K : Int)] 5)) (.slice (some ⟨w3.heap.size, 0, none⟩) 1 1) [K] := ⟨_, 1, rfl, reads_blk (Blk.new w3 _ _) _ 1 _ (by simp) rfl rfl⟩
  have i3 : IsB (w3.alloc (.cells #[.int .u8 (K : Int)] 5)) (.slice A3 (packB K Z).length c3) (packB K Z) := ⟨A3, c3, rfl, r3.next ((Below.refl _ _).alloc (Nat.le_refl _) _)⟩
  clear r13 r14 HCC hb03 r3 hown3 hown2 r2 hb2 hb3 r1 hcut
  go_wp2_with fail
  refine (zigN_any z _ hz).mono ?_
  rintro e w' ⟨rfl, rfl⟩
  go_wp2_with fail
  refine (putVar_any none 0 0 (zg z) [] _ hzg Reads.none_ (by simp) (by omega)).mono ?_
  intro e5 w5 hN5
  obtain ⟨A5, c5, rfl, _, hr5, hb5⟩ := hN5.opened
  rw [Nat.zero_add, List.nil_append] at hr5
  simp only [Nat.zero_add]
  have hb05 := hb04.trans (hb5.mono hb04.size)
  have j2 := i2.next hb5
  have j3 := i3.next hb5
  clear hN5 i2 i3 hcw
  go_wp2_with fail
  refine (concat_any (some ⟨w5.heap.size, 0, none⟩) 3 3 [vb (zg z), [K], packB K Z] _ (three_parts w5 _ _ _ _ (vb (zg z)) [K] (packB K Z) ⟨A5, c5, rfl, hr5⟩ j2 j3) rfl (by omega) (by simp; omega)).mono ?_
  rintro e w6 ⟨v, rfl, hown, hb⟩
  go_wp2_with fail
  go_ret2
  have hb6 := hb05.alloc hb05.size (.cells #[.slice A5 (vb (zg z)).length c5, .slice (some ⟨w3.heap.size, 0, none⟩) 1 1, .slice A3 (packB K Z).length c3] 25)
  rw [HD.out]
  exact ⟨v, rfl, own_base hown hb6.size, hb6.trans (hb.mono hb6.size)⟩
theorem dlPut_any (A : Option Addr) (n c : Nat) (l : List Int) (w : World) (hr : Reads w w.heap.size 1 A n (zs l)) (hl : ∀ x ∈ l, In64 x) (hn : n ≤ 65536) :
    Calls Tryz.prog 48 #[.slice A n c] w (NewE w (dl l) 0) := by
  have e1 : n = l.length := by have := hr.1; rw [zs_length] at this; omega
  match l, hr, hl, e1 with
  | [], hr, _, e1 => subst e1; exact dlPut_nil A c w hr
  | [z], hr, hl, e1 => subst e1; exact dlPut_one A c z w hr (hl z (by simp))
  | z :: y :: r, hr, hl, _ => exact dlPut_two A n c z y r w hr hl hn
end Go.Proofs.YthlfplljbbnaoaaGreatDoor

/- The library's contract on slices.Sort, laid at this program: a row holds its numbers, sorted; nothing but the row and new blocks has turned. No condition but the bound on the length. -/
namespace Go.Proofs.YthlfplljbbnaoaaGreatDoor
open Go.RowKit Go.Sort Go.Shelf
def so_sort148_ren : Go.Shelf.Ren := ⟨fun | 5 => 148 | 8 => 166 | 7 => 165 | 19 => 182 | 20 => 144 | 10 => 173 | 11 => 174 | 12 => 175 | 13 => 176 | 14 => 177 | 15 => 178 | 16 => 179 | 17 => 180 | 18 => 181 | 30 => 195 | 31 => 196 | 32 => 197 | 33 => 198 | 34 => 199 | 35 => 200 | 40 => 206 | n => n, fun | 23 => 87 | 25 => 2 | 3 => 3 | 32 => 158 | 22 => 87 | 0 => 0 | 44 => 222 | 46 => 61 | 4 => 4 | 36 => 215 | 35 => 214 | 41 => 156 | 5 => 5 | 9 => 9 | 53 => 232 | 57 => 235 | 63 => 241 | 64 => 242 | n => n, fun | n => n⟩
theorem so_sort148 : Go.Proofs.SlLaysM.n5 Tryz.prog so_sort148_ren := {
  mixed := by kernel_rfl
  f5 := ⟨Tryz.f148.name, by decide, Tryz.func148.trans (congrArg some (by kernel_rfl))⟩
  f7 := ⟨Tryz.f165.name, by decide, Tryz.func165.trans (congrArg some (by kernel_rfl))⟩
  f8 := Tryz.func166.trans (congrArg some (by kernel_rfl))
  f10 := ⟨Tryz.f173.name, by decide, Tryz.func173.trans (congrArg some (by kernel_rfl))⟩
  f11 := ⟨Tryz.f174.name, by decide, Tryz.func174.trans (congrArg some (by kernel_rfl))⟩
  f12 := ⟨Tryz.f175.name, by decide, Tryz.func175.trans (congrArg some (by kernel_rfl))⟩
  f13 := ⟨Tryz.f176.name, by decide, Tryz.func176.trans (congrArg some (by kernel_rfl))⟩
  f14 := ⟨Tryz.f177.name, by decide, Tryz.func177.trans (congrArg some (by kernel_rfl))⟩
  f15 := ⟨Tryz.f178.name, by decide, Tryz.func178.trans (congrArg some (by kernel_rfl))⟩
  f16 := ⟨Tryz.f179.name, by decide, Tryz.func179.trans (congrArg some (by kernel_rfl))⟩
  f17 := ⟨Tryz.f180.name, by decide, Tryz.func180.trans (congrArg some (by kernel_rfl))⟩
  f18 := ⟨Tryz.f181.name, by decide, Tryz.func181.trans (congrArg some (by kernel_rfl))⟩
  f19 := Tryz.func182.trans (congrArg some (by kernel_rfl))
  f20 := Tryz.func144.trans (congrArg some (by kernel_rfl))
  f30 := ⟨Tryz.f195.name, by decide, Tryz.func195.trans (congrArg some (by kernel_rfl))⟩
  f31 := Tryz.func196.trans (congrArg some (by kernel_rfl))
  f32 := Tryz.func197.trans (congrArg some (by kernel_rfl))
  f33 := ⟨Tryz.f198.name, by decide, Tryz.func198.trans (congrArg some (by kernel_rfl))⟩
  f34 := ⟨Tryz.f199.name, by decide, Tryz.func199.trans (congrArg some (by kernel_rfl))⟩
  f35 := ⟨Tryz.f200.name, by decide, Tryz.func200.trans (congrArg some (by kernel_rfl))⟩
  f40 := ⟨Tryz.f206.name, by decide, Tryz.func206.trans (congrArg some (by kernel_rfl))⟩
  t0 := Tryz.underlying0
  a0 := Tryz.isAgg0
  z0 := Tryz.sizeOf0
  v0 := Tryz.zeroValue0
  t3 := Tryz.underlying3
  a3 := Tryz.isAgg3
  z3 := Tryz.sizeOf3
  v3 := Tryz.zeroValue3
  t4 := Tryz.underlying4
  a4 := Tryz.isAgg4
  z4 := Tryz.sizeOf4
  v4 := Tryz.zeroValue4
  t5 := Tryz.underlying5
  a5 := Tryz.isAgg5
  z5 := Tryz.sizeOf5
  v5 := Tryz.zeroValue5
  t9 := Tryz.underlying9
  a9 := Tryz.isAgg9
  z9 := Tryz.sizeOf9
  v9 := Tryz.zeroValue9
  t22 := Tryz.underlying87
  a22 := Tryz.isAgg87
  z22 := Tryz.sizeOf87
  v22 := Tryz.zeroValue87
  t23 := Tryz.underlying87
  a23 := Tryz.isAgg87
  z23 := Tryz.sizeOf87
  v23 := Tryz.zeroValue87
  t25 := Tryz.underlying2
  a25 := Tryz.isAgg2
  z25 := Tryz.sizeOf2
  v25 := Tryz.zeroValue2
  t32 := Tryz.underlying158
  a32 := Tryz.isAgg158
  z32 := Tryz.sizeOf158
  v32 := Tryz.zeroValue158
  t35 := Tryz.underlying214
  a35 := Tryz.isAgg214
  z35 := Tryz.sizeOf214
  v35 := Tryz.zeroValue214
  t36 := Tryz.underlying215
  a36 := Tryz.isAgg215
  z36 := Tryz.sizeOf215
  v36 := Tryz.zeroValue215
  t41 := Tryz.underlying156
  a41 := Tryz.isAgg156
  z41 := Tryz.sizeOf156
  v41 := Tryz.zeroValue156
  t44 := Tryz.underlying222
  a44 := Tryz.isAgg222
  z44 := Tryz.sizeOf222
  v44 := Tryz.zeroValue222
  t46 := Tryz.underlying61
  a46 := Tryz.isAgg61
  z46 := Tryz.sizeOf61
  v46 := Tryz.zeroValue61
  t53 := Tryz.underlying232
  a53 := Tryz.isAgg232
  z53 := Tryz.sizeOf232
  v53 := Tryz.zeroValue232
  t57 := Tryz.underlying235
  a57 := Tryz.isAgg235
  z57 := Tryz.sizeOf235
  v57 := Tryz.zeroValue235
  t63 := Tryz.underlying241
  a63 := Tryz.isAgg241
  z63 := Tryz.sizeOf241
  v63 := Tryz.zeroValue241
  t64 := Tryz.underlying242
  a64 := Tryz.isAgg242
  z64 := Tryz.sizeOf242
  v64 := Tryz.zeroValue242 }
theorem sort_row (blk off cap : Nat) (zs : List Int) (w : World) (hH : Holds (Value.int .i64) w blk off zs.toArray) (hblk : blk < w.heap.size) (hsz : zs.length < 4611686018427387904) :
    Calls Tryz.prog 148 #[.slice (some ⟨blk, off, none⟩) zs.length cap] w fun e w' => e = .returned (.tuple #[]) ∧ ∃ n os, w' = grow (putRow (Value.int .i64) (Sort.ahead w n) blk off (zs.mergeSort fun x y => decide (x ≤ y)).toArray) os := AnyM.slices_Sort_int so_sort148 blk off cap zs w hH hblk hsz
theorem sort_none (p : Option Addr) (cap : Nat) (w : World) : Calls Tryz.prog 148 #[.slice p 0 cap] w fun e w' => e = .returned (.tuple #[]) ∧ w' = w := AnyM.slices_Sort_int_none so_sort148 p cap w
def so_sort153_ren : Go.Shelf.Ren := ⟨fun | 6 => 153 | 8 => 166 | 9 => 171 | 19 => 182 | 20 => 144 | 21 => 186 | 22 => 187 | 23 => 188 | 24 => 189 | 25 => 190 | 26 => 191 | 27 => 192 | 28 => 193 | 29 => 194 | 36 => 202 | 31 => 196 | 32 => 197 | 37 => 203 | 38 => 204 | 39 => 205 | 41 => 207 | n => n, fun | 27 => 88 | 29 => 9 | 3 => 3 | 32 => 158 | 26 => 88 | 0 => 0 | 44 => 222 | 46 => 61 | 4 => 4 | 36 => 215 | 35 => 214 | 41 => 156 | 5 => 5 | 9 => 9 | 53 => 232 | 57 => 235 | 63 => 241 | 64 => 242 | n => n, fun | n => n⟩
theorem so_sort153 : Go.Proofs.SlLaysM.n6 Tryz.prog so_sort153_ren := {
  mixed := by kernel_rfl
  f6 := ⟨Tryz.f153.name, by decide, Tryz.func153.trans (congrArg some (by kernel_rfl))⟩
  f8 := Tryz.func166.trans (congrArg some (by kernel_rfl))
  f9 := ⟨Tryz.f171.name, by decide, Tryz.func171.trans (congrArg some (by kernel_rfl))⟩
  f19 := Tryz.func182.trans (congrArg some (by kernel_rfl))
  f20 := Tryz.func144.trans (congrArg some (by kernel_rfl))
  f21 := ⟨Tryz.f186.name, by decide, Tryz.func186.trans (congrArg some (by kernel_rfl))⟩
  f22 := ⟨Tryz.f187.name, by decide, Tryz.func187.trans (congrArg some (by kernel_rfl))⟩
  f23 := ⟨Tryz.f188.name, by decide, Tryz.func188.trans (congrArg some (by kernel_rfl))⟩
  f24 := ⟨Tryz.f189.name, by decide, Tryz.func189.trans (congrArg some (by kernel_rfl))⟩
  f25 := ⟨Tryz.f190.name, by decide, Tryz.func190.trans (congrArg some (by kernel_rfl))⟩
  f26 := ⟨Tryz.f191.name, by decide, Tryz.func191.trans (congrArg some (by kernel_rfl))⟩
  f27 := ⟨Tryz.f192.name, by decide, Tryz.func192.trans (congrArg some (by kernel_rfl))⟩
  f28 := ⟨Tryz.f193.name, by decide, Tryz.func193.trans (congrArg some (by kernel_rfl))⟩
  f29 := ⟨Tryz.f194.name, by decide, Tryz.func194.trans (congrArg some (by kernel_rfl))⟩
  f31 := Tryz.func196.trans (congrArg some (by kernel_rfl))
  f32 := Tryz.func197.trans (congrArg some (by kernel_rfl))
  f36 := ⟨Tryz.f202.name, by decide, Tryz.func202.trans (congrArg some (by kernel_rfl))⟩
  f37 := ⟨Tryz.f203.name, by decide, Tryz.func203.trans (congrArg some (by kernel_rfl))⟩
  f38 := ⟨Tryz.f204.name, by decide, Tryz.func204.trans (congrArg some (by kernel_rfl))⟩
  f39 := ⟨Tryz.f205.name, by decide, Tryz.func205.trans (congrArg some (by kernel_rfl))⟩
  f41 := ⟨Tryz.f207.name, by decide, Tryz.func207.trans (congrArg some (by kernel_rfl))⟩
  t0 := Tryz.underlying0
  a0 := Tryz.isAgg0
  z0 := Tryz.sizeOf0
  v0 := Tryz.zeroValue0
  t3 := Tryz.underlying3
  a3 := Tryz.isAgg3
  z3 := Tryz.sizeOf3
  v3 := Tryz.zeroValue3
  t4 := Tryz.underlying4
  a4 := Tryz.isAgg4
  z4 := Tryz.sizeOf4
  v4 := Tryz.zeroValue4
  t5 := Tryz.underlying5
  a5 := Tryz.isAgg5
  z5 := Tryz.sizeOf5
  v5 := Tryz.zeroValue5
  t9 := Tryz.underlying9
  a9 := Tryz.isAgg9
  z9 := Tryz.sizeOf9
  v9 := Tryz.zeroValue9
  t26 := Tryz.underlying88
  a26 := Tryz.isAgg88
  z26 := Tryz.sizeOf88
  v26 := Tryz.zeroValue88
  t27 := Tryz.underlying88
  a27 := Tryz.isAgg88
  z27 := Tryz.sizeOf88
  v27 := Tryz.zeroValue88
  t29 := Tryz.underlying9
  a29 := Tryz.isAgg9
  z29 := Tryz.sizeOf9
  v29 := Tryz.zeroValue9
  t32 := Tryz.underlying158
  a32 := Tryz.isAgg158
  z32 := Tryz.sizeOf158
  v32 := Tryz.zeroValue158
  t35 := Tryz.underlying214
  a35 := Tryz.isAgg214
  z35 := Tryz.sizeOf214
  v35 := Tryz.zeroValue214
  t36 := Tryz.underlying215
  a36 := Tryz.isAgg215
  z36 := Tryz.sizeOf215
  v36 := Tryz.zeroValue215
  t41 := Tryz.underlying156
  a41 := Tryz.isAgg156
  z41 := Tryz.sizeOf156
  v41 := Tryz.zeroValue156
  t44 := Tryz.underlying222
  a44 := Tryz.isAgg222
  z44 := Tryz.sizeOf222
  v44 := Tryz.zeroValue222
  t46 := Tryz.underlying61
  a46 := Tryz.isAgg61
  z46 := Tryz.sizeOf61
  v46 := Tryz.zeroValue61
  t53 := Tryz.underlying232
  a53 := Tryz.isAgg232
  z53 := Tryz.sizeOf232
  v53 := Tryz.zeroValue232
  t57 := Tryz.underlying235
  a57 := Tryz.isAgg235
  z57 := Tryz.sizeOf235
  v57 := Tryz.zeroValue235
  t63 := Tryz.underlying241
  a63 := Tryz.isAgg241
  z63 := Tryz.sizeOf241
  v63 := Tryz.zeroValue241
  t64 := Tryz.underlying242
  a64 := Tryz.isAgg242
  z64 := Tryz.sizeOf242
  v64 := Tryz.zeroValue242 }
theorem sort_row_str (blk off cap : Nat) (ss : List (List UInt8)) (w : World) (hH : Holds (encStr) w blk off ss.toArray) (hblk : blk < w.heap.size) (hsz : ss.length < 4611686018427387904) :
    Calls Tryz.prog 153 #[.slice (some ⟨blk, off, none⟩) ss.length cap] w fun e w' => e = .returned (.tuple #[]) ∧ ∃ n os, w' = grow (putRow (encStr) (Sort.ahead w n) blk off (ss.mergeSort fun x y => decide (x ≤ y)).toArray) os := AnyM.slices_Sort_string so_sort153 blk off cap ss w hH hblk hsz
theorem sort_none_str (p : Option Addr) (cap : Nat) (w : World) : Calls Tryz.prog 153 #[.slice p 0 cap] w fun e w' => e = .returned (.tuple #[]) ∧ w' = w := AnyM.slices_Sort_string_none so_sort153 p cap w
end Go.Proofs.YthlfplljbbnaoaaGreatDoor

/- Contract of the library's slices.Sort over a row of int64 of the call's own: the same slice owns its numbers, sorted. -/
namespace Go.Proofs.YthlfplljbbnaoaaGreatDoor
open Go.RowKit Go.Sort
set_option linter.unusedVariables false
set_option linter.unusedSimpArgs false
set_option maxRecDepth 100000

theorem sort_own (base n : Nat) (v : Value) (l : List Int) (w : World) (hown : w.ownsRow base 2 1 v n (zs l)) (hl : l.length = n) (hn : n < 4611686018427387904) :
    Calls Tryz.prog 148 #[v] w fun e w' => e = .returned (.tuple #[]) ∧ w'.ownsRow base 2 1 v n (zs (l.mergeSort fun x y => decide (x ≤ y))) ∧ w.grownBy w' v.ownBlock := by
  subst hl
  have hz : ∀ m : List Int, m.map (Value.int .i64) = zs m := fun m => rfl
  rcases hown.2 with ⟨rfl, hx⟩ | ⟨g, cap, cur, rfl, hbase, hb, h1, h2, h3, h4⟩
  · have hl0 : l = [] := by
      have := hown.1
      rw [hx] at this
      cases l with
      | nil => rfl
      | cons y m => simp [zs] at hx
    subst hl0
    refine (sort_none none 0 w).mono ?_
    rintro e w' ⟨rfl, rfl⟩
    exact ⟨rfl, by simpa [List.mergeSort] using hown, World.grownBy.refl _ _⟩
  · have h4' : cur.toList.take l.length = l.map (Value.int .i64) := by rw [hz]; simpa using h4
    refine (sort_row g 0 cap l w (holds_of_blockI hb h4') (Array.getElem?_eq_some_iff.1 hb).1 hn).mono ?_
    rintro e w' ⟨rfl, m, os, rfl⟩
    refine ⟨rfl, ?_, grownBy_sortedI _⟩
    rw [← hz]
    exact ownsRow_sortedI (by simp) hbase hb h1 h2 h3
end Go.Proofs.YthlfplljbbnaoaaGreatDoor
