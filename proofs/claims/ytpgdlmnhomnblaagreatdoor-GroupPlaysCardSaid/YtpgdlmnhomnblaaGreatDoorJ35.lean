import Derived.BigQuiet
import Derived.Test.YtpgdlmnhomnblaaGreatDoorJ18
import Derived.Test.YtpgdlmnhomnblaaGreatDoorJ1
import Derived.Test.YtpgdlmnhomnblaaGreatDoorJ10
import Derived.Test.YtpgdlmnhomnblaaGreatDoorJ34
import Derived.Test.YtpgdlmnhomnblaaGreatDoorJ6
import Derived.Test.YtpgdlmnhomnblaaGreatDoorJ23
import Derived.Deep.RegionLaw
import Derived.Test.YtpgdlmnhomnblaaGreatDoorJ5
import Derived.Test.YtpgdlmnhomnblaaGreatDoorJ4
import Derived.Test.YtpgdlmnhomnblaaGreatDoorJ13
namespace Go.Proofs.YtpgdlmnhomnblaaGreatDoor
open Go.RowKit
set_option linter.unusedVariables false
set_option linter.unusedSimpArgs false
set_option maxRecDepth 100000
theorem info_run : (Tryz.prog.info? 220).map (fun i => (i.zero, i.size, i.bytes)) = some (some (.agg #[.int .i64 0, .int .i64 0]), 2, 16) := by kernel_rfl
theorem reads_two (w : World) (u v : Value) (t : TypeId) : Reads (w.alloc (.cells #[u, v] t)) (w.heap.size + 1) 2 (some ⟨w.heap.size, 0, none⟩) 1 [u, v] :=
  ⟨by simp, fun _ => ⟨_, rfl, by simp, fun j z hz => by
    have hb := (Blk.new w t #[u, v]).cell j
    rw [plain_add, Nat.zero_add, hb]
    simpa using hz⟩⟩
set_option maxHeartbeats 1000000 in
theorem refRuns_any (A : Option Addr) (n c : Nat) (l : List Int) (w : World) (hr : Reads w w.heap.size 1 A n (zs l)) (hn : n ≤ 65536) :
    Calls Tryz.prog 192 #[.slice A n c] w fun e w' => ∃ v, e = .returned v ∧ w'.ownsRow w.heap.size 220 2 v (rc l) (rv (runs l)) ∧ Below w.heap.size w w' := by
  obtain ⟨i0, hi0, hz0, hz1, hz2⟩ := info_parts info_run
  have e1 : l.length = n := by have := hr.1; rw [zs_length] at this; omega
  have E1 := Lib.hid e1
  clear e1
  go_enter Tryz.func192, Tryz.ntmps192
  go_wp2_with fail
  go_loopw [3, 4] (fun out i wr => ∃ (k : Nat) (r : List (Int × Nat)), k ≤ n ∧ i = .int .i64 (k : Int) ∧ Hid (r = runs (l.take k)) ∧ r.length ≤ k ∧ wr.ownsRow w.heap.size 220 2 out r.length (rv r) ∧ Below w.heap.size w wr) (fun _ i _ => n - (intOf i).toNat)
  case atStart => exact ⟨0, [], by omega, rfl, Lib.hid rfl, Nat.le_refl _, own_nil _ _ _ _, Below.refl _ _⟩
  case round =>
    obtain ⟨k, r, hk, rfl, hR, hrk, hown, hb⟩ := hrel
    by_cases hlt : k < n
    · obtain ⟨ad, u, rfl, hadl, hu, hc⟩ := (hr.below hb).at_ hlt
      obtain ⟨x, hx, rfl⟩ := zs_at hu
      have HX := Lib.hid (take_snoc hx)
      clear hu hx
      rcases List.eq_nil_or_concat r with rfl | ⟨r', q, hrq⟩
      · have HN : Hid (Hid ([] ++ [(x, 1)] = runs (l.take (k + 1)))) := by
          have := runs_new (l := l.take k) (x := x) (by rw [← hR.out]; simp)
          rw [HX.out, this, ← hR.out]
          exact Lib.hid (Lib.hid rfl)
        obtain ⟨A0, c0, rfl, _, _, _⟩ := own_slice hown
        go_wp2_with fail
        go_quiet (fail)
        have hownq : ((wr.drewN nq).alloc (.cells #[.int .i64 x, .int .i64 1] 220)).ownsRow w.heap.size 220 2 (.slice A0 0 c0) 0 (rv []) := World.ownsRow.alloc (w := wr.drewN nq) hown _
        have hbq : Below w.heap.size w (wr.drewN nq) := (Drawn.one wr nq).below hb
        have hsz := hb.size
        clear hadl
        go_wp2_with (at_builtin
                     refine wpList_append_any _ rfl (.tmp 38) (.tmp 44) _ rfl w.heap.size 220 i0 _ 2 16 Tryz.underlying217 hi0 hz0 hz1 hz2 rfl (by omega) (.slice A0 0 c0) 0 (rv []) rfl
                       hownq (wr.heap.size + 1) (some ⟨wr.heap.size, 0, none⟩) 1 1 [.int .i64 x, .int .i64 1] rfl (reads_two _ _ _ _) (by simp [Value.oneCell']) (by unfold maxLen; omega) (by omega) (by simp; omega) ?_
                     intro v3 w3 hown3 hg3 hat3)
        go_round
        case rel =>
          refine ⟨k + 1, [] ++ [(x, 1)], by omega, by go_num, HN.out, by simp; try omega, ?_, (hbq.alloc hbq.size _).grown hg3 (by simp; omega) (fun j hj => (hownq.lt j hj).1)⟩
          rw [rv_append, List.length_append]
          exact hown3
        case measure => simp [intOf]; omega
      · rw [List.concat_eq_append] at hrq
        subst hrq
        obtain ⟨y, m⟩ := q
        have hrl : (r' ++ [(y, m)]).length = r'.length + 1 := by simp
        rw [hrl] at hown hrk
        obtain ⟨g, cap, rfl, hgB⟩ : ∃ g cap, u3 = .slice (some ⟨g, 0, none⟩) (r'.length + 1) cap ∧ w.heap.size ≤ g := by
          rcases hown.2 with ⟨_, h0⟩ | ⟨g, cap, cur, rfl, h1, _⟩
          · omega
          · exact ⟨g, cap, rfl, h1⟩
        have hat := rv_at (r := r' ++ [(y, m)]) (k := r'.length) (x := y) (m := m) (by simp)
        have c1 := hown.cellAt (r'.length * 2) (by omega)
        have c2 := hown.cellAt (r'.length * 2 + 1) (by omega)
        rw [hat.1] at c1
        rw [hat.2] at c2
        have f2 := hown.frozenAt (r'.length * 2 + 1)
        obtain ⟨q, hq⟩ : ∃ q, r'.length = q := ⟨_, rfl⟩
        rw [hq] at hown hrk c1 c2 f2 hrl ⊢
        have hw1 : IntKind.i64.wrap (q : Int) = (q : Int) := IntWalk.i64_in _ (by omega)
        have HQ := Lib.hid hq
        clear hat hq
        by_cases hxy : y = x
        · subst hxy
          have hst := hown.stored (q * 2 + 1) (.int .i64 ((m + 1 : Nat) : Int))
          rw [← HQ.out, rv_last, HQ.out] at hst
          have HN := Lib.hid (runs_more (l := l.take k) (x := y) hR.out.symm)
          have hm : m ≤ 65536 := by
            have := (run_at (l := l.take k) (k := q) (x := y) (n := m) (by rw [← hR.out, ← HQ.out]; simp)).2.1
            rw [List.length_take] at this
            omega
          rw [show ((m + 1 : Nat) : Int) = (m : Int) + 1 by omega] at hst
          have HST := Lib.hid hst
          clear hst
          go_wp2_with fail
          go_quiet (fail)
          go_wp2_with fail
          refine ⟨⟨k + 1, r' ++ [(y, m + 1)], by omega, by go_num, Lib.hid (by rw [HX.out, HN.out]), by rw [List.length_append, HQ.out, List.length_singleton]; omega, ?_, ((Drawn.one wr nq).below hb).setCell (p := ⟨g, q * 2 + 1, none⟩) hgB _⟩, by simp [intOf]; omega⟩
          rw [List.length_append, HQ.out, List.length_singleton]
          exact HST.out.1
        · have g2 : (y == x) = false := by simp [hxy]
          have HN : Hid (Hid ((r' ++ [(y, m)]) ++ [(x, 1)] = runs (l.take (k + 1)))) := by
            have := runs_new (l := l.take k) (x := x) (by rw [← hR.out]; simpa using hxy)
            rw [HX.out, this, ← hR.out]
            exact Lib.hid (Lib.hid rfl)
          go_wp2_with fail
          go_quiet (fail)
          have hownq : ((wr.drewN nq).alloc (.cells #[.int .i64 x, .int .i64 1] 220)).ownsRow w.heap.size 220 2 (.slice (some ⟨g, 0, none⟩) (q + 1) cap) (q + 1) (rv (r' ++ [(y, m)])) := World.ownsRow.alloc (w := wr.drewN nq) hown _
          have hbq : Below w.heap.size w (wr.drewN nq) := (Drawn.one wr nq).below hb
          have hsz := hb.size
          clear hadl
          go_wp2_with (at_builtin
                       refine wpList_append_any _ rfl (.tmp 38) (.tmp 44) _ rfl w.heap.size 220 i0 _ 2 16 Tryz.underlying217 hi0 hz0 hz1 hz2 rfl (by omega) (.slice (some ⟨g, 0, none⟩) (q + 1) cap) (q + 1) (rv (r' ++ [(y, m)])) rfl
                         hownq (wr.heap.size + 1) (some ⟨wr.heap.size, 0, none⟩) 1 1 [.int .i64 x, .int .i64 1] rfl (reads_two _ _ _ _) (by simp [Value.oneCell']) (by unfold maxLen; omega) (by omega) (by simp; omega) ?_
                       intro v3 w3 hown3 hg3 hat3)
          go_round
          case rel =>
            refine ⟨k + 1, (r' ++ [(y, m)]) ++ [(x, 1)], by omega, by go_num, HN.out, by rw [List.length_append, hrl, List.length_singleton]; omega, ?_, (hbq.alloc hbq.size _).grown hg3 (by simp; omega) (fun j hj => (hownq.lt j hj).1)⟩
            rw [rv_append, List.length_append, hrl]
            exact hown3
          case measure => simp [intOf]; omega
    · obtain rfl : k = n := by omega
      go_wp2_with fail
      go_ret
      rw [hR.out, List.take_of_length_le (by rw [E1.out]; omega)] at hown
      exact ⟨_, rfl, hown, hb⟩
end Go.Proofs.YtpgdlmnhomnblaaGreatDoor
namespace Go.Proofs.YtpgdlmnhomnblaaGreatDoor
open Go.RowKit
set_option linter.unusedVariables false
set_option linter.unusedSimpArgs false
set_option maxRecDepth 100000
theorem refZigR_any (z : Int) (w : World) (h : In64 z) : Calls Tryz.prog 191 #[.int .i64 z] w fun e w' => e = .returned (.int .u64 (zg z : Int)) ∧ w = w' := by
  rw [← (zg_int h).1]; exact refZig_any z w h.1 h.2
set_option maxHeartbeats 1000000 in
theorem refRnPut_any (A : Option Addr) (n c : Nat) (l : List Int) (w : World) (hr : Reads w w.heap.size 1 A n (zs l)) (hl : ∀ z ∈ l, In64 z) (hn : n ≤ 65536) :
    Calls Tryz.prog 155 #[.slice A n c] w (New w (bs (rf (runs l))) (rf (runs l)).length) := by
  obtain ⟨i0, hi0, hz0, hz1, hz2⟩ := info_parts info_u8
  have e1 : l.length = n := by have := hr.1; rw [zs_length] at this; omega
  have hrc := rc_le l
  rw [e1] at hrc
  have E1 := Lib.hid e1; have HLL := Lib.hid hl
  clear e1 hl
  go_enter Tryz.func155, Tryz.ntmps155
  go_wp2_with fail
  refine (refRuns_any A n c l w hr hn).mono ?_
  rintro e w1 ⟨v1, rfl, hown1, hb1⟩
  obtain ⟨A1, c1, rfl, _, _, hr1⟩ := own_slice hown1
  have hs1 := hb1.size
  have HR1 := Lib.hid hr1
  clear hown1 hr1
  go_wp2_with fail
  go_loopw [3, 5] (fun out i wr => ∃ k : Nat, k ≤ rc l ∧ i = .int .i64 (k : Int) ∧ wr.ownsRow w1.heap.size 5 1 out (rf ((runs l).take k)).length (bs (rf ((runs l).take k))) ∧ Below w1.heap.size w1 wr) (fun _ i _ => rc l - (intOf i).toNat)
  case atStart => exact ⟨0, by omega, rfl, own_nil _ _ _ _, Below.refl _ _⟩
  case round =>
    obtain ⟨k, hk, rfl, hown, hb⟩ := hrel
    by_cases hlt : k < rc l
    · obtain ⟨x, m, hat⟩ : ∃ x m, (runs l)[k]? = some (x, m) := ⟨_, _, List.getElem?_eq_getElem hlt⟩
      obtain ⟨hm0, hle, hall, _⟩ := run_at hat
      rw [E1.out] at hle
      have hx64 : In64 x := HLL.out x (List.mem_of_getElem? (hall 0 hm0))
      have hxg := (zg_int hx64).2
      obtain ⟨hv1, hv2⟩ := rv_at hat
      obtain ⟨b, off, rfl, hbB, hcell⟩ := reads_plain2 HR1.out (by omega) hv1
      have hcm : ∀ W : World, Below w1.heap.size w1 W → W.cell? ⟨b, off + k * 2 + 1, none⟩ = some (.int .i64 (m : Int)) ∧ W.cell? ⟨b, off + k * 2, none⟩ = some (.int .i64 x) := fun W hW =>
        ⟨(hW.cell (p := ⟨b, off + k * 2 + 1, none⟩) hbB).trans (hcell _ _ hv2), (hW.cell (p := ⟨b, off + k * 2, none⟩) hbB).trans (hcell _ _ hv1)⟩
      have HCM := Lib.hid hcm
      obtain ⟨cm1, _⟩ := hcm wr hb
      have hm1 : (m : Int) - 1 = ((m - 1 : Nat) : Int) := by omega
      have hw1 : IntKind.i64.wrap ((m - 1 : Nat) : Int) = ((m - 1 : Nat) : Int) := IntWalk.i64_in _ (by omega)
      have hw2 : IntKind.u64.wrap ((m - 1 : Nat) : Int) = ((m - 1 : Nat) : Int) := IntWalk.u64_in _ (by omega)
      have hv64 : m - 1 < 18446744073709551616 := by omega
      have hvm := vb_length (m - 1)
      have hvx := vb_length (zg x)
      have hrl := rf_length ((runs l).take k)
      have htk : ((runs l).take k).length ≤ k := List.length_take_le _ _
      have HS := Lib.hid (rf_step hat)
      clear hv1 hv2 hcell hall hat hcm hle
      go_wp2_with fail
      refine (refVar_any (m - 1) wr hv64).mono ?_
      intro e2 w2 hN2
      obtain ⟨A2, c2, rfl, _, hr2, hb2⟩ := hN2.opened
      clear hN2
      have hown2 := own_below hown hb2
      have hb02 := hb.trans (hb2.mono hb.size)
      go_wp2_with (at_builtin
                   refine wpList_append_any _ rfl (.tmp 14) (.tmp 22) _ rfl w1.heap.size 5 i0 _ 1 1 Tryz.underlying66 hi0 hz0 hz1 hz2 rfl (by omega) u3 (rf ((runs l).take k)).length (bs (rf ((runs l).take k))) rfl
                     hown2 w2.heap.size A2 (vb (m - 1)).length c2 (bs (vb (m - 1))) rfl hr2 (bs_one _) (by unfold maxLen; omega) (by omega) hb02.size ?_
                   intro v3 w3 hown3 hg3 hat3
                   obtain ⟨A3, c3, rfl, _, _, _⟩ := own_slice hown3
                   have hb03 := hb02.grown hg3 hb02.size (fun j hj => (hown2.lt j hj).1)
                   obtain ⟨_, cx3⟩ := HCM.out w3 hb03)
      rw [← bs_append, ← List.length_append] at hown3
      have hyl : (rf ((runs l).take k) ++ vb (m - 1)).length ≤ 20 * k + 10 := by rw [List.length_append]; omega
      refine (refZigR_any x w3 hx64).mono ?_
      rintro e w' ⟨rfl, rfl⟩
      go_wp2_with fail
      refine (refVar_any (zg x) w3 hxg).mono ?_
      intro e4 w4 hN4
      obtain ⟨A4, c4, rfl, _, hr4, hb4⟩ := hN4.opened
      clear hN4
      have hown4 := own_below hown3 hb4
      have hb04 := hb03.trans (hb4.mono hb03.size)
      rw [List.length_append] at hown4 hyl
      go_wp2_with (at_builtin
                   refine wpList_append_any _ rfl (.tmp 24) (.tmp 31) _ rfl w1.heap.size 5 i0 _ 1 1 Tryz.underlying66 hi0 hz0 hz1 hz2 rfl (by omega) (.slice A3 ((rf ((runs l).take k)).length + (vb (m - 1)).length) c3) ((rf ((runs l).take k)).length + (vb (m - 1)).length) (bs (rf ((runs l).take k) ++ vb (m - 1))) rfl
                     hown4 w4.heap.size A4 (vb (zg x)).length c4 (bs (vb (zg x))) rfl hr4 (bs_one _) (by unfold maxLen; omega) (by omega) hb04.size ?_
                   intro v5 w5 hown5 hg5 hat5)
      go_round
      case rel =>
        refine ⟨k + 1, by omega, by go_num, ?_, hb04.grown hg5 hb04.size (fun j hj => (hown4.lt j hj).1)⟩
        rw [HS.out, ← List.append_assoc, List.length_append, List.length_append, bs_append (_ ++ _)]
        exact hown5
      case measure => simp [intOf]; omega
    · obtain rfl : k = rc l := by omega
      go_wp2_with fail
      go_ret
      rw [show (runs l).take (rc l) = runs l from List.take_of_length_le (Nat.le_refl _)] at hown
      exact ⟨_, rfl, own_base hown hs1, hb1.trans (hb.mono hs1)⟩
end Go.Proofs.YtpgdlmnhomnblaaGreatDoor
namespace Go.Proofs.YtpgdlmnhomnblaaGreatDoor
open Go.RowKit
set_option linter.unusedVariables false
set_option linter.unusedSimpArgs false
set_option maxRecDepth 100000
theorem stp_take (l : List Int) (k : Nat) (z : Int) (h : l[k]? = some z) : (stp 0 l).take (k + 1) = (stp 0 l).take k ++ [wrap64 (z - ahd 0 l k)] := by
  rw [List.take_add_one, stp_at l 0 k z h]; rfl
set_option maxHeartbeats 2000000 in
theorem refSteps_any (A : Option Addr) (n c : Nat) (l : List Int) (w : World) (hr : Reads w w.heap.size 1 A n (zs l)) (hl : ∀ z ∈ l, In64 z) (hnc : n ≤ c) (hn : n ≤ 65536) :
    Calls Tryz.prog 193 #[.slice A n c] w fun e w' => ∃ v, e = .returned v ∧ w'.ownsRow w.heap.size 2 1 v n (zs (stp 0 l)) ∧ Below w.heap.size w w' := by
  obtain ⟨i1, hi1, hy0, hy1, hy2⟩ := info_parts info_i64
  have e1 : l.length = n := by have := hr.1; rw [zs_length] at this; omega
  have E1 := Lib.hid e1; have HL := Lib.hid hl
  clear e1 hl
  go_enter Tryz.func193, Tryz.ntmps193
  go_wp2_with fail
  go_loopw [3, 4] (fun out i wr => ∃ k : Nat, k ≤ n ∧ i = .int .i64 (k : Int) ∧ wr.ownsRow w.heap.size 2 1 out k (zs ((stp 0 l).take k)) ∧ Below w.heap.size w wr) (fun _ i _ => n - (intOf i).toNat)
  case atStart => exact ⟨0, by omega, rfl, own_nil _ _ _ _, Below.refl _ _⟩
  case round =>
    obtain ⟨k, hk, rfl, hown, hb⟩ := hrel
    have hrb := hr.below hb
    by_cases hlt : k < n
    · obtain ⟨ad, u, rfl, _, hu, hc⟩ := hrb.at_ hlt
      obtain ⟨z, hz, rfl⟩ := zs_at hu
      have HS := Lib.hid (stp_take l k z hz)
      have HIN := Lib.hid (HL.out z (List.mem_of_getElem? hz))
      have hsz := hb.size
      rcases Nat.eq_zero_or_pos k with h0 | h0
      · subst h0
        have hc0 : wr.cell? ad = some (.int .i64 z) := by simpa [Addr.add] using hc
        clear hu hz hc
        go_wp2_with (at_builtin
                     refine wpList_append_any _ rfl (.tmp 13) (.tmp 17) _ rfl w.heap.size 2 i1 _ 1 8 Tryz.underlying142 hi1 hy0 hy1 hy2 rfl (by omega) u3 0 (zs ((stp 0 l).take 0)) rfl
                       (hown.alloc _) (wr.heap.size + 1) (some ⟨wr.heap.size, 0, none⟩) 1 1 [.int .i64 z] rfl (Reads.new wr _ _) (one_int _ _) (by unfold maxLen; omega) (by omega) (by simp; omega) ?_
                     intro v4 w4 hown4 hg4 hat4)
        go_round
        case rel =>
          refine ⟨1, by omega, by go_num, ?_, below_app hb hown hsz hg4⟩
          rw [show (1 : Nat) = 0 + 1 from rfl, HS.out, ← zs_snoc, show z - ahd 0 l 0 = z by rw [ahd_zero]; omega, w64_id HIN.out]
          exact hown4
        case measure => simp [intOf]; omega
      · obtain ⟨j, hj⟩ : ∃ j, k = j + 1 := ⟨k - 1, by omega⟩
        obtain ⟨ad', u', e', _, hu', hp⟩ := hrb.at_ (show j < n by omega)
        injection e' with e'
        subst e'
        obtain ⟨y, hy, rfl⟩ := zs_at hu'
        have HA := Lib.hid (ahd_succ (p := 0) hy)
        clear hu hz hu' hy
        have q0 : ((k : Int) == 0) = false := by simp; omega
        have f1 : (k : Int) - 1 = (j : Int) := by omega
        have f2 : IntKind.i64.wrap (j : Int) = (j : Int) := IntWalk.i64_in _ (by omega)
        have f3 : j < n := by omega
        rw [← hj] at HA
        have HJ := Lib.hid hj
        clear hj
        go_wp2_with fail
        go_region_law (first
          | (refine step_append_any _ rfl (.tmp 19) (.tmp 30) _ rfl w.heap.size 2 i1 _ 1 8 Tryz.underlying142 hi1 hy0 hy1 hy2 rfl (by omega) u3 k (zs ((stp 0 l).take k)) (by simp [Act.eval, Act.put])
              ((show wr.drew.ownsRow _ _ _ _ _ _ from hown).alloc _) (wr.heap.size + 1) (some ⟨wr.heap.size, 0, none⟩) 1 1 [.int .i64 (IntKind.i64.wrap (z - y))] (by simp [Act.eval, Act.put]) (by exact (Reads.new wr (.int .i64 (IntKind.i64.wrap (z - y))) 2).drew) (one_int _ _) (by unfold maxLen; omega) (by omega) (by simp; omega) ?_
             intro v4 w4 hown4 hg4 hat4))
        all_goals
          go_wp2_with fail
          go_round
          case rel =>
            refine ⟨k + 1, by omega, by go_num, ?_, below_app hb hown hsz (show (wr.alloc _).grownBy w4 _ from ⟨hg4.os, hg4.tape, hg4.output, hg4.size, hg4.block⟩)⟩
            rw [HS.out, ← zs_snoc, HA.out, ← IntWalk.i64_left]
            exact hown4
          case measure => simp [intOf]; omega
    · go_wp2_with fail
      go_ret
      obtain rfl : k = n := by omega
      rw [List.take_of_length_le (by rw [stp_length, E1.out]; omega)] at hown
      exact ⟨_, rfl, hown, hb⟩
end Go.Proofs.YtpgdlmnhomnblaaGreatDoor
namespace Go.Proofs.YtpgdlmnhomnblaaGreatDoor
open Go.RowKit
set_option linter.unusedVariables false
set_option linter.unusedSimpArgs false
set_option maxRecDepth 100000
def bitB (v k : Nat) : Bool := decide (v / 2 ^ k % 2 = 1)
theorem bitB_digit (w : Nat) (l : List Nat) (h : ∀ a ∈ l, a < 2 ^ w) (i k v : Nat) (hi : l[i]? = some v) (hk : k < w) : bitB v k = bitB (pk w l) (i * w + k) := by
  obtain ⟨hl, rfl⟩ := List.getElem?_eq_some_iff.1 hi
  unfold bitB
  rw [Nat.mul_comm i w, pk_bit w l h i k hl hk]
theorem bitB_val (V j : Nat) : V / 2 ^ j % 2 = if bitB V j = true then 1 else 0 := by
  unfold bitB
  by_cases h : V / 2 ^ j % 2 = 1
  · simp [h]
  · simp [h]; omega
end Go.Proofs.YtpgdlmnhomnblaaGreatDoor
namespace Go.Proofs.YtpgdlmnhomnblaaGreatDoor
open Go.RowKit
set_option linter.unusedVariables false
set_option linter.unusedSimpArgs false
set_option maxRecDepth 100000
theorem refWidth_any (A : Option Addr) (n c : Nat) (l : List Nat) (w : World) (hr : Reads w w.heap.size 1 A n (us l)) (hl : ∀ a ∈ l, a < 18446744073709551616) (hn : n ≤ 140737488355328) :
    Calls Tryz.prog 194 #[.slice A n c] w fun e w' => e = .returned (.int .i64 (wd l : Int)) ∧ w = w' := by
  have e1 : l.length = n := by have := hr.1; rw [us_length] at this; omega
  have hd64 : ∀ k, wd (l.take k) ≤ 64 := fun k => (wd_le _ 64).2 (by intro a ha; have := hl a (List.mem_of_mem_take ha); omega)
  have E1 := Lib.hid e1; clear e1
  have HD := Lib.hid hd64; clear hd64
  have HL := Lib.hid hl; clear hl
  go_enter Tryz.func194, Tryz.ntmps194
  go_wp2_with fail
  go_loop [3, 4] (fun s3 s4 => ∃ k m : Nat, k ≤ n ∧ s4 = .int .i64 (k : Int) ∧ s3 = .int .i64 (m : Int) ∧ Hid (m = wd (l.take k))) (fun _ i => n - (intOf i).toNat)
  case atStart => exact ⟨0, 0, Nat.zero_le _, rfl, rfl, Lib.hid rfl⟩
  case round =>
    obtain ⟨k, m, hk, rfl, rfl, hm⟩ := hrel
    have hm64 : m ≤ 64 := by rw [hm.out]; exact HD.out k
    by_cases hlt : k < n
    · obtain ⟨ad, u, rfl, _, hu, hc⟩ := hr.at_ hlt
      obtain ⟨b, hb, rfl⟩ := us_at hu
      have HB := Lib.hid hb
      clear hb hu
      have hb64 : b < 18446744073709551616 := HL.out b (List.mem_of_getElem? HB.out)
      go_wp2_with fail
      go_loop [5, 6] (fun s5 s6 => ∃ j v : Nat, s5 = .int .i64 (j : Int) ∧ s6 = .int .u64 (v : Int) ∧ j ≤ 64 ∧ v < 18446744073709551616 ∧ Hid (j + blen v = blen b)) (fun _ i => (intOf i).toNat)
      case atStart => exact ⟨0, b, rfl, rfl, by omega, hb64, Lib.hid (by omega)⟩
      case round =>
        obtain ⟨j, v, rfl, rfl, hj, hv64, hjv⟩ := hrel
        by_cases h0 : 0 < v
        · have hbh := blen_half v h0
          have hbb := blen_lt64 b hb64
          have hj63 : j < 64 := by have := hjv.out; omega
          have HBH := Lib.hid hbh; clear hbh hbb
          go_wp2_with fail
          go_round
          case rel => exact ⟨j + 1, v / 2, by go_num, rfl, by omega, by omega, Lib.hid (by have := hjv.out; have := HBH.out; omega)⟩
          case measure => simp [intOf]; omega
        · obtain rfl : v = 0 := by omega
          go_wp2_with fail
          go_round
          case rel =>
            refine ⟨k + 1, max m j, by omega, by go_num, by go_num, Lib.hid ?_⟩
            have e : l.take (k + 1) = l.take k ++ [b] := by rw [List.take_add_one, HB.out]; rfl
            rw [e, wd_snoc, ← hm.out]
            have := hjv.out
            have h00 : blen 0 = 0 := rfl
            congr 1
          case measure => simp [intOf]; omega
    · obtain rfl : k = n := by omega
      go_wp2_with fail
      go_ret
      refine ⟨ret_of (congrArg (Value.int .i64) ?_), rfl⟩
      rw [hm.out, List.take_of_length_le (by rw [E1.out]; omega)]
end Go.Proofs.YtpgdlmnhomnblaaGreatDoor
namespace Go.Proofs.YtpgdlmnhomnblaaGreatDoor
open Go.RowKit
set_option linter.unusedVariables false
set_option linter.unusedSimpArgs false
set_option maxRecDepth 100000
theorem bit_any (v : Nat) (kI : Int) (k : Nat) (hk : kI = (k : Int)) (w : World) (hv : v < 18446744073709551616) (h64 : k < 64) :
    Calls Tryz.prog 213 #[.int .u64 (v : Int), .int .i64 kI] w fun e w' => e = .returned (.bool (bitB v k)) ∧ w = w' := by
  subst hk
  go_enter Tryz.func213, Tryz.ntmps213
  go_wp2_with fail
  go_ret
  refine ⟨ret_of (congrArg Value.bool ?_), rfl⟩
  have e : (v : Int) / 2 ^ k = ((v / 2 ^ k : Nat) : Int) := by push_cast; rfl
  unfold bitB
  rw [e]
  generalize v / 2 ^ k = y
  rw [Int.tmod_eq_emod_of_nonneg (by omega), Bool.eq_iff_iff]
  simp
  omega
theorem refSize_any (n w : Int) (W : World) (hn : -9223372036854775808 ≤ n ∧ n ≤ 9223372036854775807) (hw : -9223372036854775808 ≤ w ∧ w ≤ 9223372036854775807) :
    Calls Tryz.prog 212 #[.int .i64 n, .int .i64 w] W fun e w' => e = .returned (.int .i64 (szI n w)) ∧ W = w' := by
  by_cases h : 0 ≤ n ∧ n ≤ 65536 ∧ 0 ≤ w ∧ w ≤ 64
  · have hz : szI n w = (sz n.toNat w.toNat : Int) := by unfold szI; rw [if_pos h]
    have HZ := Lib.hid hz; clear hz
    obtain ⟨h1, h2, h3, h4⟩ := h
    obtain ⟨n, rfl⟩ := Int.eq_ofNat_of_zero_le h1
    obtain ⟨w, rfl⟩ := Int.eq_ofNat_of_zero_le h3
    have hs := sz_small n w (by omega) (by omega)
    have hs2 : (n : Int) * (w : Int) ≤ 4194304 := by rw [← Int.natCast_mul]; omega
    have hs3 : 0 ≤ (n : Int) * (w : Int) := by rw [← Int.natCast_mul]; omega
    by_cases h8 : 8 * ((n : Int) * (w : Int) / 8) < (n : Int) * (w : Int)
    all_goals
      go_enter Tryz.func212, Tryz.ntmps212
      go_wp2_with fail
      go_ret
      refine ⟨ret_of (congrArg (Value.int .i64) ?_), rfl⟩
      rw [HZ.out]
      unfold sz
      simp
      omega
  · have hz : szI n w = -1 := by unfold szI; rw [if_neg h]
    have HZ := Lib.hid hz; clear hz
    by_cases h1 : n < 0
    · clear h
      go_enter Tryz.func212, Tryz.ntmps212
      go_wp2_with fail
      go_ret
      exact ⟨ret_of (congrArg (Value.int .i64) HZ.out.symm), rfl⟩
    · by_cases h2 : 65536 < n
      · clear h
        go_enter Tryz.func212, Tryz.ntmps212
        go_wp2_with fail
        go_ret
        exact ⟨ret_of (congrArg (Value.int .i64) HZ.out.symm), rfl⟩
      · by_cases h3 : w < 0
        · clear h
          go_enter Tryz.func212, Tryz.ntmps212
          go_wp2_with fail
          go_ret
          exact ⟨ret_of (congrArg (Value.int .i64) HZ.out.symm), rfl⟩
        · have h4 : 64 < w := by omega
          clear h
          go_enter Tryz.func212, Tryz.ntmps212
          go_wp2_with fail
          go_ret
          exact ⟨ret_of (congrArg (Value.int .i64) HZ.out.symm), rfl⟩
end Go.Proofs.YtpgdlmnhomnblaaGreatDoor
