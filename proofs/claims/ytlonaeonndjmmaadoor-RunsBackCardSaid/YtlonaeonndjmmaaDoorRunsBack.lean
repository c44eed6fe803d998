/- The walk of the statement RunsBack: what is put is read as it was; what is read is put as it was; rows of one number have one run. -/
import Derived.Test.YtlonaeonndjmmaaDoorRnAwake
import Derived.Test.YtlonaeonndjmmaaDoorRnCount
import Derived.Test.YtlonaeonndjmmaaDoorRnGet
import Derived.Test.YtlonaeonndjmmaaDoorRnPutGet
import Derived.Test.YtlonaeonndjmmaaDoorSameZ
import Derived.Test.YtlonaeonndjmmaaDoorFill
namespace Go.Proofs.YtlonaeonndjmmaaDoor
open Go.RowKit
set_option linter.unusedVariables false
set_option linter.unusedSimpArgs false
set_option maxRecDepth 100000

theorem rnBack_else (A1 A2 : Option Addr) (n1 c1 n2 c2 : Nat) (k v : Int) (w : World) (h : 300 < n1 ∨ 500 < n2 ∨ (3000 < k ∧ k ≤ 65536)) :
    Calls Tryd.prog 4 #[.slice A1 n1 c1, .slice A2 n2 c2, .int .i64 k, .int .i64 v] w fun e w' => e = .returned (.bool true) ∧ Below w.heap.size w w' := by
  by_cases h1 : 300 < n1
  case' neg =>
    by_cases h2 : 500 < n2
    case' neg =>
      have h3 : 3000 < k := by omega
      have h4 : k ≤ 65536 := by omega
  all_goals
    clear h
    go_enter Tryd.func4, Tryd.ntmps4
    go_wp2_with fail
    refine (rnAwake_any w).mono ?_
    rintro e w1 ⟨rfl, hb⟩
    go_wp2_with fail
    go_ret
    exact ⟨rfl, hb⟩
/-- Get, of bytes of which it is known what they are. -/
theorem rnGet_as {l : List Int} {r : Int} {b : List Nat} {N n : Nat} (hE : rE b (N : Int) = r) (hS : rS b (N : Int) = l) (hb : ∀ x ∈ b, x < 256) (hn : n ≤ 140737488355328) (A : Option Addr) (c : Nat) (W : World) (hr : Reads W W.heap.size 1 A n (bs b)) (hm : Met W) :
    Calls Tryd.prog 6 #[.slice A n c, .int .i64 (N : Int)] W (NewLE W l r) := by
  subst hE hS; exact rnGet_any A n c (N : Int) b W hr hb hn hm
set_option maxHeartbeats 2000000 in
theorem rnBack_main (A1 A2 : Option Addr) (c1 n2 c2 : Nat) (k v : Int) (l : List Int) (lb : List Nat) (w : World) (h1 : Reads w w.heap.size 1 A1 l.length (zs l)) (h2 : Reads w w.heap.size 1 A2 n2 (bs lb)) (hl : ∀ z ∈ l, In64 z) (hlb : ∀ x ∈ lb, x < 256)
    (hn1 : l.length ≤ 300) (hn2 : n2 ≤ 500) (hk : k ≤ 3000 ∨ 65536 < k) (hmet : Met w) :
    Calls Tryd.prog 4 #[.slice A1 l.length c1, .slice A2 n2 c2, .int .i64 k, .int .i64 v] w fun e w' => e = .returned (.bool true) ∧ Below w.heap.size w w' := by
  have d1 : decide ((300 : Int) < (l.length : Int)) = false := by simp; omega
  have d2 : decide ((500 : Int) < (n2 : Int)) = false := by simp; omega
  have hrc := rc_le l
  have hpl := rf_length (runs l)
  have hpb := rf_byte hl (by omega)
  obtain ⟨g1, g2⟩ := rn_get_put hl (by omega)
  have C1 := Lib.hid (fun n hn => rnGet_as (n := n) g1 g2 hpb hn)
  have CP := Lib.hid (fun A c W hr => rnPut_any A l.length c l W hr hl (by omega))
  have CC := Lib.hid (fun A c W hr => count_any A l.length c l W hr (by omega))
  have hXl : (zs (List.replicate l.length v)).length = l.length := by rw [zs_length, List.length_replicate]
  have hmk := fun W => run_make_i64 l.length l.length (Nat.le_refl _) (by omega) W
  rw [← fillW_zero (zs (List.replicate l.length v)) (.int .i64 0) l.length hXl] at hmk
  have HX := Lib.hid hXl
  have hlb2 : n2 = lb.length := by have := h2.1; rw [bs_length] at this; omega
  subst hlb2
  have CG := Lib.hid (fun A c W hr hm => rnGet_any A lb.length c k lb W hr hlb (by omega) hm)
  obtain ⟨r, hr0⟩ : ∃ r, r = rE lb k := ⟨_, rfl⟩
  have HZ : Hid (r = 0 → 0 ≤ k ∧ k ≤ 65536 ∧ rf (runs (rS lb k)) = lb ∧ ((rS lb k).length : Int) = k ∧ ∀ z ∈ rS lb k, In64 z) := by rw [hr0]; exact Lib.hid (rn_put_get lb hlb k)
  obtain ⟨S, hS0⟩ : ∃ S, S = rS lb k := ⟨_, rfl⟩
  rw [← hr0, ← hS0] at CG
  rw [← hS0] at HZ
  have hpl2 : (rf (runs l)).length ≤ 6000 := by have : (runs l).length ≤ l.length := hrc; omega
  obtain ⟨p, hp0⟩ : ∃ p, p = rf (runs l) := ⟨_, rfl⟩
  rw [← hp0] at C1 CP hpl2
  clear g1 g2 hr0 hS0 hp0 hpb hl hlb hpl hXl
  rcases hk with hk | hk
  case' inl => have d3 : decide ((3000 : Int) < k) = false := by simp; omega
  case' inr =>
    have d3 : decide ((3000 : Int) < k) = true := by simp; omega
    have d4 : decide (k ≤ (65536 : Int)) = false := by simp; omega
  all_goals
    go_enter Tryd.func4, Tryd.ntmps4
    go_wp2_with fail
    refine (CP.out A1 c1 w h1).mono ?_
    rintro e w1 ⟨v1, rfl, hown1, hb1⟩
    obtain ⟨Ax, cx, rfl, hcx, _, rx⟩ := own_slice hown1
    have h11 := h1.next hb1
    have h21 := h2.next hb1
    clear hown1 h1 h2
    go_wp2_with fail
    refine (C1.out p.length (by omega) Ax cx w1 rx (hmet.next hb1)).mono ?_
    intro e w2 hN2
    obtain ⟨Ay, cy, rfl, _, _, ry, hb2⟩ := hN2.opened
    have h12 := h11.next hb2
    have h22 := h21.next hb2
    have hb02 := hb1.trans (hb2.mono hb1.size)
    clear hN2 h11 h21 rx hb1 hb2
    go_wp2_with fail
    refine (sameZ_true Ay A1 l.length cy c1 l w2 ry h12 (by omega)).mono ?_
    rintro e w3 ⟨rfl, hd3⟩
    have hn3 := hd3.below (Below.refl w2.heap.size w2)
    have hb03 := hd3.below hb02
    have h13 := h12.next hn3
    have h23 := h22.next hn3
    clear h12 h22 ry hn3 hd3 hb02
    go_wp2_with fail
    refine (CC.out A1 c1 w3 h13).mono ?_
    rintro e w4 ⟨rfl, hb4⟩
    have hb04 := hb03.trans (hb4.mono hb03.size)
    have h24 := h23.next hb4
    clear h13 h23 hb4 hb03
    go_wp2_with fail
    have hF0 := Blk.new w4 2 (fillW (zs (List.replicate l.length v)) (.int .i64 0) 0)
    have hb40 : Below w4.heap.size w4 (w4.alloc (.cells (fillW (zs (List.replicate l.length v)) (.int .i64 0) 0) 2)) := (Below.refl _ _).alloc (Nat.le_refl _) _
    obtain ⟨h, hh⟩ : ∃ h, h = w4.heap.size := ⟨_, rfl⟩
    rw [← hh] at hF0 ⊢
    have hhl : w4.heap.size ≤ h := by omega
    clear hh hmk
    go_loopw [14] (fun s14 wr => ∃ j : Nat, j ≤ l.length ∧ s14 = .int .i64 (j : Int) ∧ Blk wr h 2 (fillW (zs (List.replicate l.length v)) (.int .i64 0) j) ∧ Below w4.heap.size w4 wr) (fun i _ => l.length - (intOf i).toNat)
    case atStart => exact ⟨0, Nat.zero_le _, rfl, hF0, hb40⟩
    case round =>
      clear hF0 hb40
      obtain ⟨j, hj, rfl, hF, hb5⟩ := hrel
      by_cases hlt : j < l.length
      · have hc := hF.cell j
        rw [fillW_old _ _ j (by rw [HX.out]; omega)] at hc
        have hf := hF.frozen j
        go_wp2_with fail
        go_round
        case rel =>
          refine ⟨j + 1, by omega, by go_num, ?_, hb5.setCell (by show w4.heap.size ≤ h; exact hhl) _⟩
          have := hF.set_ j (.int .i64 v)
          rwa [fillW_next _ _ j _ (by unfold zs; rw [List.getElem?_map, List.getElem?_replicate, if_pos hlt]; rfl)] at this
        case measure => simp [intOf]; omega
      · obtain rfl : j = l.length := by omega
        rw [fillW_all _ _ _ HX.out] at hF
        have rrow := reads_blk hF wr.heap.size l.length (zs (List.replicate l.length v)) hF.lt HX.out (by simp [zs])
        have hb05 := hb04.trans (hb5.mono hb04.size)
        have h25 := h24.next hb5
        clear hF hb5 hb04 h24
        go_wp2_with fail
        refine (count_any (some ⟨h, 0, none⟩) l.length l.length (List.replicate l.length v) wr rrow (by omega)).mono ?_
        rw [rc_rep]
        rintro e w6 ⟨rfl, hb6⟩
        have hb06 := hb05.trans (hb6.mono hb05.size)
        have h26 := h25.next hb6
        clear rrow hb05 h25 hb6
        have hm6 := hmet.next hb06
        clear hmet C1 CP CC HX
        go_wp2_with fail
        all_goals
          refine (CG.out A2 c2 w6 h26 hm6).mono ?_
          intro e w8 hN8
          obtain ⟨A8, c8, rfl, _, _, r8, hb8⟩ := hN8.opened
          have hb08 := hb06.trans (hb8.mono hb06.size)
          have h28 := h26.next hb8
          clear hN8 h26 hb8 hb06 hm6 CG
          by_cases hr : r = 0
          · obtain ⟨k0, k1, hpS, hSl, hS64⟩ := HZ.out hr
            subst hr
            have HP := Lib.hid hpS
            have HPS := Lib.hid (rnPut_any A8 S.length c8 S w8 r8 hS64 (by omega))
            clear hSl hpS hS64 HZ
            go_wp2_with fail
            refine HPS.out.mono ?_
            rintro e w9 ⟨v9, rfl, hown9, hb9⟩
            rw [HP.out] at hown9
            obtain ⟨A9, c9, rfl, _, _, r9⟩ := own_slice hown9
            have hb09 := hb08.trans (hb9.mono hb08.size)
            have h29 := h28.next hb9
            clear hown9 HPS r8 h28 hb08
            go_wp2_with fail
            refine (same_true A9 A2 lb.length c9 lb.length c2 lb w9 r9 h29 (by omega)).mono ?_
            rintro e w10 ⟨rfl, hd10⟩
            have hb010 := hd10.below hb09
            clear r9 h29 hb09 hd10
            go_wp2_with fail
            refine (rnAwake_any w10).mono ?_
            rintro e w11 ⟨rfl, hb11⟩
            go_wp2_with fail
            go_ret
            exact ⟨rfl, hb010.trans (hb11.mono hb010.size)⟩
          · have q1 : (r == 0) = false := by simp [hr]
            clear hr HZ r8 h28
            go_wp2_with fail
            refine (rnAwake_any w8).mono ?_
            rintro e w11 ⟨rfl, hb11⟩
            go_wp2_with fail
            go_ret
            exact ⟨rfl, hb08.trans (hb11.mono hb08.size)⟩
theorem rnBack_any (A1 A2 : Option Addr) (n1 c1 n2 c2 : Nat) (k v : Int) (l : List Int) (lb : List Nat) (w : World) (h1 : Reads w w.heap.size 1 A1 n1 (zs l)) (h2 : Reads w w.heap.size 1 A2 n2 (bs lb)) (hl : ∀ z ∈ l, In64 z) (hlb : ∀ x ∈ lb, x < 256) (hmet : Met w) :
    Calls Tryd.prog 4 #[.slice A1 n1 c1, .slice A2 n2 c2, .int .i64 k, .int .i64 v] w fun e w' => e = .returned (.bool true) ∧ Below w.heap.size w w' := by
  by_cases h : 300 < n1 ∨ 500 < n2 ∨ (3000 < k ∧ k ≤ 65536)
  · exact rnBack_else A1 A2 n1 c1 n2 c2 k v w h
  · obtain rfl : n1 = l.length := by have := h1.1; rw [zs_length] at this; omega
    exact rnBack_main A1 A2 c1 n2 c2 k v l lb w h1 h2 hl hlb (by omega) (by omega) (by omega) hmet
end Go.Proofs.YtlonaeonndjmmaaDoor
