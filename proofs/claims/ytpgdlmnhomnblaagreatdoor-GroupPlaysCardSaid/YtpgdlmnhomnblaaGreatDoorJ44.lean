import Derived.Test.YtpgdlmnhomnblaaGreatDoorShaStep
import Derived.Test.YtpgdlmnhomnblaaGreatDoorShaRefFill
import Derived.Test.YtpgdlmnhomnblaaGreatDoorJ29
import Derived.Test.YtpgdlmnhomnblaaGreatDoorJ21
import Derived.Test.YtpgdlmnhomnblaaGreatDoorJ6
import Derived.Test.YtpgdlmnhomnblaaGreatDoorJ1
import Derived.Test.YtpgdlmnhomnblaaGreatDoorJ24
namespace Go.Proofs.YtpgdlmnhomnblaaGreatDoor
open Go.RowKit
set_option linter.unusedVariables false
set_option linter.unusedSimpArgs false
set_option maxRecDepth 100000
theorem refTable_any (w : World) : Calls Tryz.prog 97 #[] w fun e w' => ∃ v, e = .returned v ∧ w'.ownsRow w.heap.size 129 1 v 64 (u4 tabK) ∧ Below w.heap.size w w' := by
  go_enter Tryz.func97, Tryz.ntmps97
  go_wp2_with fail
  go_ret
  exact ⟨_, rfl, own_of_blkS (cap := 64) (Blk.new w _ _) (Nat.le_refl _) (Nat.le_refl _) (by unfold maxLen; omega) rfl (xs := u4 tabK) rfl, (Below.refl _ _).alloc (Nat.le_refl _) _⟩
theorem bytes8_take (s : S8) (i x : Nat) (h : s.list[i]? = some x) : (bytes8 s).take (4 * (i + 1)) = (bytes8 s).take (4 * i) ++ be4 x := by
  have hi : i < 8 := (List.getElem?_eq_some_iff.1 h).1
  obtain ⟨a, b, c, d, e, f, g, k⟩ := s
  have hc : i = 0 ∨ i = 1 ∨ i = 2 ∨ i = 3 ∨ i = 4 ∨ i = 5 ∨ i = 6 ∨ i = 7 := by omega
  rcases hc with rfl | rfl | rfl | rfl | rfl | rfl | rfl | rfl
  all_goals
    simp [S8.list] at h
    subst h
    rfl
def mid4 (v : Nat) : Nat → List Nat
  | 0 => [0, 0, 0, 0]
  | 1 => [0, 0, 0, v % 256]
  | 2 => [0, 0, v / 256 % 256, v % 256]
  | 3 => [0, v / 65536 % 256, v / 256 % 256, v % 256]
  | _ => [v / 16777216 % 256, v / 65536 % 256, v / 256 % 256, v % 256]
def hM (s : S8) (i v m : Nat) : List Nat := (bytes8 s).take (4 * i) ++ mid4 v m ++ List.replicate (32 - 4 * (i + 1)) 0
theorem mid4_length (v m : Nat) : (mid4 v m).length = 4 := by
  match m with
  | 0 => rfl
  | 1 => rfl
  | 2 => rfl
  | 3 => rfl
  | n + 4 => rfl
theorem hM_zero (s : S8) (i v : Nat) (hi : i < 8) : hM s i v 0 = hL s i := by
  unfold hM hL mid4
  rw [show 32 - 4 * i = (32 - 4 * (i + 1)) + 4 by omega, show List.replicate (32 - 4 * (i + 1) + 4) 0 = 0 :: 0 :: 0 :: 0 :: List.replicate (32 - 4 * (i + 1)) 0 from rfl]
  simp
theorem hM_all (s : S8) (i v : Nat) (h : s.list[i]? = some v) : hM s i v 4 = hL s (i + 1) := by
  unfold hM hL
  rw [bytes8_take s i v h]
  rfl
theorem hM_length (s : S8) (i v m : Nat) (hi : i < 8) : (hM s i v m).length = 32 := by
  unfold hM
  rw [List.length_append, List.length_append, List.length_take, mid4_length, List.length_replicate, bytes8_length]
  omega
theorem hM_set (s : S8) (i v m : Nat) (hi : i < 8) (hm : m < 4) : (hM s i v m).set (4 * i + (3 - m)) (v / 256 ^ m % 256) = hM s i v (m + 1) := by
  have hl : ((bytes8 s).take (4 * i)).length = 4 * i := by rw [List.length_take, bytes8_length]; omega
  unfold hM
  rw [List.append_assoc, List.append_assoc, List.set_append_right _ _ (by omega), hl, Nat.add_sub_cancel_left, List.set_append_left _ _ (by rw [mid4_length]; omega)]
  have hc : m = 0 ∨ m = 1 ∨ m = 2 ∨ m = 3 := by omega
  rcases hc with rfl | rfl | rfl | rfl
  all_goals simp [mid4]
theorem blks_len (l : List Nat) (n : Nat) (hn : l.length = n) : ∃ nb, (n + (9 + zsS n)) = 64 * nb ∧ (fillF l).length = n + (9 + zsS n) := by
  have h1 := fillF_length l
  have h2 : (fillF l).length = n + (9 + zsS n) := by unfold fillF; rw [List.length_append, tailF_length, hn]
  exact ⟨(n + (9 + zsS n)) / 64, by rw [h2] at h1; omega, h2⟩
set_option maxHeartbeats 8000000 in
theorem refSum_any (A : Option Addr) (n c : Nat) (l : List Nat) (w : World) (hr : Reads w w.heap.size 1 A n (bs l)) (hl : ∀ b ∈ l, b < 256) (hn : n ≤ 4294967296) :
    Calls Tryz.prog 57 #[.slice A n c] w (HashTo w w.heap.size (shaN l)) := by
  have hz := (zero_of_info info_hash).1
  have hsz := Lib.hid (zero_of_info info_hash).2
  have hlen : l.length = n := by have := hr.1; rw [bs_length] at this; omega
  obtain ⟨nb, hnb, hfl⟩ := blks_len l n hlen
  have hbytes : ∀ b ∈ fillF l, b < 256 := by
    intro b hb
    unfold fillF at hb
    rcases List.mem_append.1 hb with hb | hb
    · exact hl b hb
    · exact tailF_lt _ b hb
  have hR1 := Blk.new w 39 (Array.replicate 32 (.int .u8 0))
  have hb1 : Below w.heap.size w (w.alloc (.cells (Array.replicate 32 (.int .u8 0)) 39)) := (Below.refl _ _).alloc (Nat.le_refl _) _
  have hs1 : (w.alloc (.cells (Array.replicate 32 (.int .u8 0)) 39)).heap.size = w.heap.size + 1 := by simp
  obtain ⟨w1, hw1⟩ : ∃ w1 : World, w1 = w.alloc (.cells (Array.replicate 32 (.int .u8 0)) 39) := ⟨_, rfl⟩
  rw [← hw1] at hR1 hb1 hs1
  have hw1' := hw1.symm
  clear hw1
  have hX := reads_blk (Blk.new w1 129 #[.int .u32 1779033703, .int .u32 3144134277, .int .u32 1013904242, .int .u32 2773480762, .int .u32 1359893119, .int .u32 2600822924, .int .u32 528734635, .int .u32 1541459225]) (w1.heap.size + 1) 8 (u4 s0.list) (by omega) rfl rfl
  have HX := Lib.hid hX; have HR1 := Lib.hid hR1; have HB1 := Lib.hid hb1; have HS1 := Lib.hid hs1; have HR := Lib.hid hr; have HL := Lib.hid hl; have HFL := Lib.hid hfl; have HBY := Lib.hid hbytes
  have HLEN := Lib.hid hlen; have HNB := Lib.hid hnb
  clear hX hR1 hb1 hs1 hr hl hfl hbytes hlen hnb
  go_enter Tryz.func57, Tryz.ntmps57
  go_wp2_with fail
  obtain ⟨w2, hw2⟩ : ∃ w2 : World, w2 = w1.alloc (.cells #[.int .u32 1779033703, .int .u32 3144134277, .int .u32 1013904242, .int .u32 2773480762, .int .u32 1359893119, .int .u32 2600822924, .int .u32 528734635, .int .u32 1541459225] 129) := ⟨_, rfl⟩
  have HB2 := Lib.hid (show Below w1.heap.size w1 w2 by rw [hw2]; exact (Below.refl _ _).alloc (Nat.le_refl _) _)
  have HS2 := Lib.hid (show w2.heap.size = w1.heap.size + 1 by rw [hw2]; simp)
  rw [← hw2] at HX ⊢
  clear hw2
  refine (refTable_any w2).mono ?_
  rintro _ w3 ⟨vk, rfl, hownk, hb3⟩
  obtain ⟨Ak, ck, rfl, _, _, hrk⟩ := own_slice hownk
  have HRK := Lib.hid hrk
  have HB3 := Lib.hid hb3
  have HIN := Lib.hid ((((HR.out.below HB1.out).more HB1.out.size).below (HB2.out.mono (Nat.le_refl _))).more HB2.out.size |>.below hb3 |>.more hb3.size)
  clear hownk hrk hb3
  go_wp2_with fail
  refine (refFill_any A n c l w3 HIN.out HL.out hn).mono ?_
  rintro _ w4 ⟨v5, rfl, hown5, hb4⟩
  obtain ⟨A5, c5, rfl, hc5, hc5m, hr5⟩ := own_slice hown5
  have HRK4 := Lib.hid ((HRK.out.below hb4).more hb4.size)
  have HX4 := Lib.hid ((((HX.out.more (by have := HS2.out; omega)).below HB3.out).more HB3.out.size |>.below hb4).more hb4.size)
  have HR5 := Lib.hid hr5
  have HB14 := Lib.hid (HB2.out.trans ((HB3.out.trans (hb4.mono HB3.out.size)).mono HB2.out.size))
  obtain ⟨M, hM⟩ : ∃ M, fillF l = M := ⟨_, rfl⟩
  obtain ⟨N, hN⟩ : ∃ N, n + (9 + zsS n) = N := ⟨_, rfl⟩
  rw [hM] at HR5 HFL HBY
  rw [hN] at HR5 HFL HNB hc5 ⊢
  have HM := Lib.hid hM; have HNN := Lib.hid hN
  have hNl : N ≤ 4294967500 := by have := zsS_lt64 n; omega
  clear hM hN hown5 hb4 hr5 HX HRK HIN HB2 HB3 HS2
  go_wp2_with fail
  go_loopg [3, 6] nb (fun gk s3 s6 wr => ∃ (j q : Nat) (As : Option Addr) (cs : Nat), j + gk = nb ∧ s6 = .int .i64 (q : Int) ∧ Hid (q = 64 * j) ∧ s3 = .slice As 8 cs ∧ Hid (Reads wr wr.heap.size 1 As 8 (u4 (blks s0 M j).list)) ∧ Hid (Below w4.heap.size w4 wr))
  case atStart => exact ⟨0, 0, _, _, by omega, rfl, Lib.hid rfl, rfl, HX4, Lib.hid (Below.refl _ _)⟩
  case round =>
    clear HX4
    obtain ⟨j, q, As, cs, hjg, rfl, hq, rfl, hrs, hb⟩ := hrel
    cases gk with
    | zero =>
      obtain rfl : j = nb := by omega
      clear hjg
      have hqN : ¬ (q : Int) < (N : Int) := by have := hq.out; have := HNB.out; omega
      obtain ⟨st, hst⟩ : ∃ st, st = blks s0 M j := ⟨_, rfl⟩
      rw [← hst] at hrs
      have HST := Lib.hid (show bytes8 st = shaN l by
        rw [hst]
        unfold shaN st8
        rw [HM.out, show M.length / 64 = j by rw [HFL.out, HNB.out]; omega])
      have hstok : st.ok := by rw [hst]; exact blks_ok s0_ok _ _
      have HSTOK := Lib.hid hstok
      obtain ⟨bz, oz, hAs, hbz, hcz⟩ := hrs.out.plain (by omega)
      subst hAs
      have HCZ := Lib.hid hcz
      have HH := Lib.hid (Blk.new wr 39 (Array.replicate 32 (.int .u8 0)))
      have HB5 := Lib.hid (show Below wr.heap.size wr (wr.alloc (.cells (Array.replicate 32 (.int .u8 0)) 39)) from (Below.refl _ _).alloc (Nat.le_refl _) _)
      have HBW := Lib.hid (HB14.out.trans (hb.out.mono HB14.out.size))
      clear hst hstok hcz hrs
      go_wp2_with fail
      obtain ⟨w6, hw6⟩ : ∃ w6 : World, w6 = wr.alloc (.cells (Array.replicate 32 (.int .u8 0)) 39) := ⟨_, rfl⟩
      rw [← hw6] at HH HB5
      rw [← hw6]
      obtain ⟨k, hk⟩ : ∃ k, k = wr.heap.size := ⟨_, rfl⟩
      rw [← hk] at HH HB5 hbz ⊢
      have HKK := Lib.hid hk
      rw [← hL_zero st] at HH
      clear hw6 hk hz hw1'
      obtain ⟨wold, rfl⟩ : ∃ x, x = wr := ⟨_, rfl⟩
      go_loopg [8, 9, 10] 8 (fun gk s8 s9 s10 wr => ∃ i : Nat, i + gk = 8 ∧ s8 = .int .i64 (i : Int) ∧ Hid (Blk wr k 39 (bs (hL st i)).toArray) ∧ Hid (Below k wold wr))
      case atStart => exact ⟨0, by omega, rfl, HH, HB5⟩
      case round =>
        clear HH HB5 hb
        obtain ⟨i, hig, rfl, hH, hb⟩ := hrel
        cases gk with
        | zero =>
          obtain rfl : i = 8 := by omega
          clear hig
          rw [hL_all, HST.out] at hH
          have hres : Blk wr w.heap.size 39 (Array.replicate 32 (.int .u8 0)) := (HR1.out.below HBW.out HR1.out.lt).below hb.out (by have := HKK.out; have := HBW.out.size; have := HS1.out; omega)
          have HRES := Lib.hid hres
          have HBF := Lib.hid (HB1.out.trans ((HBW.out.trans (hb.out.mono (by have := HKK.out; have := HBW.out.size; omega))).mono (by have := HS1.out; omega)))
          have hsz2 : ((bs (shaN l)).toArray).size = 32 := by simp [bs_length, shaN_length]
          have hone : ((bs (shaN l)).toArray).all (·.oneCell') = true := by
            rw [Array.all_eq_true]
            intro j h
            exact bs_one (shaN l) _ (by simp)
          have HZ2 := Lib.hid hsz2; have HON := Lib.hid hone
          clear hsz2 hone hres
          obtain ⟨V, hV⟩ : ∃ V : Array Value, V = (bs (shaN l)).toArray := ⟨_, rfl⟩
          rw [← hV] at hH HZ2 HON
          have HV := Lib.hid hV; clear hV
          go_wp2_with (first
            | refine wpList_load_row (by rfl) (.tmp 7) (by rfl) (by rfl) hH.out Tryz.underlying39 (by rw [HZ2.out]; exact hsz.out) ?_
            | refine wpList_store_row (by rfl) (.tmp 2) (.tmp 51) (by rfl) (by rfl) (by rfl) HRES.out (by rw [HZ2.out]; exact hsz.out) (by rw [HZ2.out]; simp) HON.out ?_)
          refine bodyPost_ret (v := .agg V) (results_cell_row rfl _ _ _ _ _ _ _ (by rfl) (HRES.out.row V) Tryz.underlying39 rfl (by rw [HZ2.out]; exact hsz.out)) rfl ⟨by rw [HV.out], Below.row HBF.out (Nat.le_refl _) _⟩
        | succ gko =>
          have hi : i < 8 := by omega
          have hii : (i : Int) < 8 := by omega
          obtain ⟨v, hv⟩ : ∃ x, st.list[i]? = some x := ⟨_, List.getElem?_eq_getElem (by rw [list_length]; exact hi)⟩
          have hvl : v < 4294967296 := HSTOK.out v (List.mem_of_getElem? hv)
          have hc : wr.cell? ⟨bz, oz + i, none⟩ = some (.int .u32 (v : Int)) := (hb.out.cell (p := ⟨bz, oz + i, none⟩) hbz).trans (HCZ.out i _ (u4_at hv))
          have HVV := Lib.hid hv; clear hv
          have hH0 := hH
          rw [← hM_zero st i v hi] at hH0
          go_wp2_with fail
          go_loopg [9, 10] 4 (fun g s9 s10 wr => ∃ m : Nat, m + g = 4 ∧ s10 = .int .i64 (3 - (m : Int)) ∧ s9 = .int .u32 ((v / 256 ^ m : Nat) : Int) ∧ Hid (Blk wr k 39 (bs (hM st i v m)).toArray) ∧ Hid (Below k wold wr))
          case atStart => exact ⟨0, by omega, rfl, by simp, hH0, hb⟩
          case round =>
            clear hH0 hH hb hc
            obtain ⟨m, hmg, rfl, rfl, hH, hb⟩ := hrel
            cases gk with
            | zero =>
              obtain rfl : m = 4 := by omega
              clear hmg
              rw [hM_all st i v HVV.out] at hH
              go_wp2_with fail
              go_roundg gko
              case measure => omega
              case rel => exact ⟨i + 1, by omega, by go_num, hH, hb⟩
            | succ g2 =>
              obtain ⟨q4, hq4⟩ : ∃ q : Nat, q = 4 * i := ⟨_, rfl⟩
              have hq4i : 4 * (i : Int) = (q4 : Int) := by omega
              have hq28 : q4 ≤ 28 := by omega
              have HQ4 := Lib.hid hq4
              clear hq4
              have hm : m = 0 ∨ m = 1 ∨ m = 2 ∨ m = 3 := by omega
              rcases hm with rfl | rfl | rfl | rfl
              · obtain ⟨x, hx⟩ : ∃ x : Nat, v / 256 ^ 0 = x := ⟨_, rfl⟩
                have hxl : x < 4294967296 := by rw [← hx]; exact Nat.lt_of_le_of_lt (Nat.div_le_self _ _) hvl
                rw [hx]
                have hxm : (x : Int) % 256 = ((x % 256 : Nat) : Int) := by omega
                obtain ⟨y, hy⟩ : ∃ y : Nat, x % 256 = y := ⟨_, rfl⟩
                rw [hy] at hxm
                have hy256 : (y : Int) < 256 := by omega
                have hcell := hH.out.cell (q4 + 3)
                have hex : ∃ u, (bs (hM st i v 0)).toArray[q4 + 3]? = some u := ⟨_, Array.getElem?_eq_getElem (by simp [bs_length, hM_length st i v 0 hi]; omega)⟩
                obtain ⟨u, hu⟩ := hex
                rw [hu] at hcell
                have hfz := hH.out.frozen (q4 + 3)
                have hb32 : (q4 : Int) + 3 < 32 := by omega
                have hw1 : IntKind.i64.wrap ((q4 : Int) + 3) = (q4 : Int) + 3 := IntWalk.i64_in _ (by omega)
                have hw2 : ((q4 : Int) + 3).toNat = q4 + 3 := by omega
                have hw3 : (0 : Int) ≤ (q4 : Int) + 3 := by omega
                have HX := Lib.hid hx; have HY := Lib.hid hy
                clear hx hy hu
                go_wp2_with fail
                go_roundg g2
                case measure => omega
                case rel =>
                  refine ⟨1, by omega, by go_num, ?_, Lib.hid ?_, Lib.hid (hb.out.setCell (Nat.le_refl _) _)⟩
                  · refine congrArg (Value.int .u32) ?_
                    rw [Nat.pow_succ, ← Nat.div_div_eq_div_mul, HX.out, Int.natCast_ediv]
                    rfl
                  · have h1 := hH.out.set_ (q4 + 3) (.int .u8 (y : Int))
                    rw [bs_set] at h1
                    have h2 := hM_set st i v 0 hi (by omega)
                    rw [HX.out, HY.out, ← HQ4.out] at h2
                    rw [show q4 + 3 = q4 + (3 - 0) by omega, h2] at h1
                    exact h1
              · obtain ⟨x, hx⟩ : ∃ x : Nat, v / 256 ^ 1 = x := ⟨_, rfl⟩
                have hxl : x < 4294967296 := by rw [← hx]; exact Nat.lt_of_le_of_lt (Nat.div_le_self _ _) hvl
                rw [hx]
                have hxm : (x : Int) % 256 = ((x % 256 : Nat) : Int) := by omega
                obtain ⟨y, hy⟩ : ∃ y : Nat, x % 256 = y := ⟨_, rfl⟩
                rw [hy] at hxm
                have hy256 : (y : Int) < 256 := by omega
                have hcell := hH.out.cell (q4 + 2)
                have hex : ∃ u, (bs (hM st i v 1)).toArray[q4 + 2]? = some u := ⟨_, Array.getElem?_eq_getElem (by simp [bs_length, hM_length st i v 1 hi]; omega)⟩
                obtain ⟨u, hu⟩ := hex
                rw [hu] at hcell
                have hfz := hH.out.frozen (q4 + 2)
                have hb32 : (q4 : Int) + 2 < 32 := by omega
                have hw1 : IntKind.i64.wrap ((q4 : Int) + 2) = (q4 : Int) + 2 := IntWalk.i64_in _ (by omega)
                have hw2 : ((q4 : Int) + 2).toNat = q4 + 2 := by omega
                have hw3 : (0 : Int) ≤ (q4 : Int) + 2 := by omega
                have HX := Lib.hid hx; have HY := Lib.hid hy
                clear hx hy hu
                go_wp2_with fail
                go_roundg g2
                case measure => omega
                case rel =>
                  refine ⟨2, by omega, by go_num, ?_, Lib.hid ?_, Lib.hid (hb.out.setCell (Nat.le_refl _) _)⟩
                  · refine congrArg (Value.int .u32) ?_
                    rw [Nat.pow_succ, ← Nat.div_div_eq_div_mul, HX.out, Int.natCast_ediv]
                    rfl
                  · have h1 := hH.out.set_ (q4 + 2) (.int .u8 (y : Int))
                    rw [bs_set] at h1
                    have h2 := hM_set st i v 1 hi (by omega)
                    rw [HX.out, HY.out, ← HQ4.out] at h2
                    rw [show q4 + 2 = q4 + (3 - 1) by omega, h2] at h1
                    exact h1
              · obtain ⟨x, hx⟩ : ∃ x : Nat, v / 256 ^ 2 = x := ⟨_, rfl⟩
                have hxl : x < 4294967296 := by rw [← hx]; exact Nat.lt_of_le_of_lt (Nat.div_le_self _ _) hvl
                rw [hx]
                have hxm : (x : Int) % 256 = ((x % 256 : Nat) : Int) := by omega
                obtain ⟨y, hy⟩ : ∃ y : Nat, x % 256 = y := ⟨_, rfl⟩
                rw [hy] at hxm
                have hy256 : (y : Int) < 256 := by omega
                have hcell := hH.out.cell (q4 + 1)
                have hex : ∃ u, (bs (hM st i v 2)).toArray[q4 + 1]? = some u := ⟨_, Array.getElem?_eq_getElem (by simp [bs_length, hM_length st i v 2 hi]; omega)⟩
                obtain ⟨u, hu⟩ := hex
                rw [hu] at hcell
                have hfz := hH.out.frozen (q4 + 1)
                have hb32 : (q4 : Int) + 1 < 32 := by omega
                have hw1 : IntKind.i64.wrap ((q4 : Int) + 1) = (q4 : Int) + 1 := IntWalk.i64_in _ (by omega)
                have hw2 : ((q4 : Int) + 1).toNat = q4 + 1 := by omega
                have hw3 : (0 : Int) ≤ (q4 : Int) + 1 := by omega
                have HX := Lib.hid hx; have HY := Lib.hid hy
                clear hx hy hu
                go_wp2_with fail
                go_roundg g2
                case measure => omega
                case rel =>
                  refine ⟨3, by omega, by go_num, ?_, Lib.hid ?_, Lib.hid (hb.out.setCell (Nat.le_refl _) _)⟩
                  · refine congrArg (Value.int .u32) ?_
                    rw [Nat.pow_succ, ← Nat.div_div_eq_div_mul, HX.out, Int.natCast_ediv]
                    rfl
                  · have h1 := hH.out.set_ (q4 + 1) (.int .u8 (y : Int))
                    rw [bs_set] at h1
                    have h2 := hM_set st i v 2 hi (by omega)
                    rw [HX.out, HY.out, ← HQ4.out] at h2
                    rw [show q4 + 1 = q4 + (3 - 2) by omega, h2] at h1
                    exact h1
              · obtain ⟨x, hx⟩ : ∃ x : Nat, v / 256 ^ 3 = x := ⟨_, rfl⟩
                have hxl : x < 4294967296 := by rw [← hx]; exact Nat.lt_of_le_of_lt (Nat.div_le_self _ _) hvl
                rw [hx]
                have hxm : (x : Int) % 256 = ((x % 256 : Nat) : Int) := by omega
                obtain ⟨y, hy⟩ : ∃ y : Nat, x % 256 = y := ⟨_, rfl⟩
                rw [hy] at hxm
                have hy256 : (y : Int) < 256 := by omega
                have hcell := hH.out.cell (q4)
                have hex : ∃ u, (bs (hM st i v 3)).toArray[q4]? = some u := ⟨_, Array.getElem?_eq_getElem (by simp [bs_length, hM_length st i v 3 hi]; omega)⟩
                obtain ⟨u, hu⟩ := hex
                rw [hu] at hcell
                have hfz := hH.out.frozen (q4)
                have hb32 : (q4 : Int) < 32 := by omega
                have hw1 : IntKind.i64.wrap ((q4 : Int)) = (q4 : Int) := IntWalk.i64_in _ (by omega)
                have hw2 : ((q4 : Int)).toNat = q4 := by omega
                have hw3 : (0 : Int) ≤ (q4 : Int) := by omega
                have HX := Lib.hid hx; have HY := Lib.hid hy
                clear hx hy hu
                go_wp2_with fail
                go_roundg g2
                case measure => omega
                case rel =>
                  refine ⟨4, by omega, by go_num, ?_, Lib.hid ?_, Lib.hid (hb.out.setCell (Nat.le_refl _) _)⟩
                  · refine congrArg (Value.int .u32) ?_
                    rw [Nat.pow_succ, ← Nat.div_div_eq_div_mul, HX.out, Int.natCast_ediv]
                    rfl
                  · have h1 := hH.out.set_ (q4) (.int .u8 (y : Int))
                    rw [bs_set] at h1
                    have h2 := hM_set st i v 3 hi (by omega)
                    rw [HX.out, HY.out, ← HQ4.out] at h2
                    rw [show q4 = q4 + (3 - 3) by omega, h2] at h1
                    exact h1
    | succ gk =>
      have hqN : (q : Int) < (N : Int) := by have := hq.out; have := HNB.out; omega
      have hq64 : q + 64 ≤ N := by have := hq.out; have := HNB.out; omega
      have hqc : ¬ c5 = q := by omega
      have f1 : IntKind.i64.wrap ((q : Int) + 64) = (q : Int) + 64 := IntWalk.i64_in _ (by omega)
      have f2 : ((q : Int) + 64).toNat = q + 64 := by omega
      have f3 : (0 : Int) ≤ (q : Int) + 64 := by omega
      have f4 : (q : Int) + 64 ≤ (c5 : Int) := by omega
      have f5 : q + 64 - q = 64 := by omega
      have hcut : Reads wr wr.heap.size 1 (A5.map (·.add q)) 64 (bs ((M.drop q).take 64)) := by
        have h1 := ((HR5.out.below hb.out).more hb.out.size).cut (k := q) (cap := c5) (by omega) hc5
        rw [if_neg hqc] at h1
        have h2 := h1.fore (k := 64) (by omega)
        simpa [bs_drop, bs_take] using h2
      have hcall := refStep_any As (A5.map (·.add q)) Ak cs (c5 - q) ck (blks s0 M j) ((M.drop q).take 64) wr (blks_ok s0_ok _ _) hrs.out hcut (fun b hb => HBY.out b (List.mem_of_mem_drop (List.mem_of_mem_take hb))) ((HRK4.out.below hb.out).more hb.out.size)
      have HC := Lib.hid hcall
      have hnx : blk (blks s0 M j) ((M.drop q).take 64) = blks s0 M (j + 1) := by rw [hq.out]; rfl
      have HN := Lib.hid hnx
      clear hcut hcall hnx
      go_wp2_with fail
      refine HC.out.mono ?_
      rintro _ w5 ⟨v6, rfl, hown6, hb5⟩
      obtain ⟨A6, c6, rfl, _, _, hr6⟩ := own_slice hown6
      have HR6 := Lib.hid hr6
      have HB5 := Lib.hid (hb.out.trans (hb5.mono hb.out.size))
      clear hown6 hr6 hb5
      go_wp2_with fail
      go_roundg gk
      case measure => omega
      case rel => exact ⟨j + 1, q + 64, A6, c6, by omega, by go_num, Lib.hid (by have := hq.out; omega), rfl, by rw [← HN.out]; exact HR6, HB5⟩
end Go.Proofs.YtpgdlmnhomnblaaGreatDoor
namespace Go.Proofs.YtpgdlmnhomnblaaGreatDoor
open Go.RowKit
set_option linter.unusedVariables false
set_option linter.unusedSimpArgs false
set_option maxRecDepth 100000
attribute [local go_sem] binOp_gtr_tx
set_option maxHeartbeats 1000000 in
theorem refCmp_any (a b : Vl) (w : World) : Calls Tryz.prog 100 #[vW a, vW b] w fun e w' => e = .returned (.int .i64 (cmpV a b)) ∧ Below w.heap.size w w' := by
  have hc := cmp_cases a b
  obtain ⟨r, hr⟩ : ∃ r, cmpV a b = r := ⟨_, rfl⟩
  rw [hr] at hc ⊢
  obtain ⟨a0, a1, za⟩ := a
  obtain ⟨b0, b1, zb⟩ := b
  simp only at hc
  unfold vW
  simp only
  have hB : Below w.heap.size w ((w.alloc (.cells #[.int .i64 a0, .int .i64 a1, .string ⟨za.toArray⟩] 51)).alloc (.cells #[.int .i64 b0, .int .i64 b1, .string ⟨zb.toArray⟩] 51)) :=
    ((Below.refl _ _).alloc (Nat.le_refl _) _).alloc (by simp) _
  clear hr
  rcases hc with ⟨h, rfl⟩ | ⟨h, rfl⟩ | ⟨rfl, ⟨rfl, ⟨h, rfl⟩ | ⟨h, rfl⟩ | ⟨rfl, rfl⟩⟩ | ⟨rfl, ⟨h, rfl⟩ | ⟨h, rfl⟩ | ⟨rfl, rfl⟩⟩ | ⟨h1, h2, rfl⟩⟩
  · go_enter Tryz.func100, Tryz.ntmps100
    go_wp2_with fail
    go_ret
    exact ⟨rfl, hB⟩
  · have h' : ¬ a0 < b0 := by omega
    go_enter Tryz.func100, Tryz.ntmps100
    go_wp2_with fail
    go_ret
    exact ⟨rfl, hB⟩
  · go_enter Tryz.func100, Tryz.ntmps100
    go_wp2_with fail
    go_ret
    exact ⟨rfl, hB⟩
  · have h' : ¬ a1 < b1 := by omega
    have h'' : decide (a1 < b1) = false := by simp [h']
    go_enter Tryz.func100, Tryz.ntmps100
    go_wp2_with fail
    go_ret
    exact ⟨rfl, hB⟩
  · go_enter Tryz.func100, Tryz.ntmps100
    go_wp2_with fail
    go_ret
    exact ⟨rfl, hB⟩
  · have l1 := less_of h
    have l2 := less_not (tlt_asymm h)
    have g1 : decide (tlt za zb) = true := by simp [h]
    have g2 : decide (tlt zb za) = false := by simp [tlt_asymm h]
    clear h
    go_enter Tryz.func100, Tryz.ntmps100
    go_wp2_with fail
    go_ret
    exact ⟨rfl, hB⟩
  · have l1 := less_of h
    have l2 := less_not (tlt_asymm h)
    have g1 : decide (tlt zb za) = true := by simp [h]
    have g2 : decide (tlt za zb) = false := by simp [tlt_asymm h]
    clear h
    go_enter Tryz.func100, Tryz.ntmps100
    go_wp2_with fail
    go_ret
    exact ⟨rfl, hB⟩
  · have l1 := less_not (tlt_irrefl za)
    have g1 : decide (tlt za za) = false := by simp [tlt_irrefl za]
    go_enter Tryz.func100, Tryz.ntmps100
    go_wp2_with fail
    go_ret
    exact ⟨rfl, hB⟩
  · have q1 : (a0 == 1) = false := by simp [h1]
    have q2 : (a0 == 2) = false := by simp [h2]
    clear h1 h2
    go_enter Tryz.func100, Tryz.ntmps100
    go_wp2_with fail
    go_ret
    exact ⟨rfl, hB⟩
end Go.Proofs.YtpgdlmnhomnblaaGreatDoor
