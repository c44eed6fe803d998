import Derived.Test.YtpgdlmnhomnblaaGreatDoorJ21
import Derived.Test.YtpgdlmnhomnblaaGreatDoorJ9
import Derived.Test.YtpgdlmnhomnblaaGreatDoorJ34
import Derived.Test.YtpgdlmnhomnblaaGreatDoorJ33
import Derived.Test.YtpgdlmnhomnblaaGreatDoorJ35
import Derived.Test.YtpgdlmnhomnblaaGreatDoorJ36
import Derived.Test.YtpgdlmnhomnblaaGreatDoorJ38
import Derived.Test.YtpgdlmnhomnblaaGreatDoorJ39
namespace Go.Proofs.YtpgdlmnhomnblaaGreatDoor
open Go.RowKit
set_option linter.unusedVariables false
set_option linter.unusedSimpArgs false
set_option maxRecDepth 100000
def anyN (l : List Vl) (k : Nat) : Bool := decide (cnt (non l) k ≠ 0)
theorem anyN_step {l : List Vl} {k : Nat} {v : Vl} (h : l[k]? = some v) : anyN l (k + 1) = (anyN l k || nul v) := by
  unfold anyN
  rw [cnt, non_at h]
  cases hv : nul v with
  | true => simp
  | false => simp
theorem frm_length {way : Nat} {l : List Vl} (hl : l.length ≤ 65536) (hi : ∀ v ∈ l, In64 v.2.1) (ht : ∀ v ∈ l, v.2.2.length ≤ 65536) : (frm way l).length ≤ 4295753740 := by
  have h1 := ints_in hi
  have h2 := ints_length_le l
  have h3 := wrds_length_le l
  have h4 := wrds_short ht
  unfold frm
  split
  · have := (pl_length (ints l)).2; omega
  split
  · have := rf_length (runs (ints l)); have := rc_le (ints l); unfold rc at this; omega
  split
  · have := dl_length (ints l) (by omega); omega
  split
  · have := dc_length (ints l) (by omega); omega
  split
  · have := fo_length h1 (by omega); omega
  · exact txf_length _ (by omega) h4
theorem headB_no {l : List Vl} {n : Nat} (h : l.length = n) (hg : anyN l n = false) : headB l = [0] := by
  subst h
  unfold headB
  rw [if_pos (by simpa [anyN] using hg)]
theorem headB_yes {l : List Vl} {n : Nat} (h : l.length = n) (hg : anyN l n = true) : headB l = [1] ++ setB (non l) n := by
  subst h
  unfold headB
  rw [if_neg (by simpa [anyN] using hg)]; rfl
set_option maxHeartbeats 4000000 in
theorem refLay_any (A : Option Addr) (n c way : Nat) (kd : Int) (l : List Vl) (w : World) (hr : Reads w w.heap.size 3 A n (vs l)) (hn : n ≤ 65536) (hi : ∀ v ∈ l, In64 v.2.1) (hck : ckE kd l = 0) (hw : way ≤ 5) :
    Calls Tryz.prog 103 #[.slice A n c, .int .i64 (way : Int)] w (New w (bs (lyB l way)) (lyB l way).length) := by
  obtain ⟨i0, hi0, hz0, hz1, hz2⟩ := info_parts info_u8
  obtain ⟨i1, hi1, hy0, hy1, hy2⟩ := info_parts info_i64
  obtain ⟨i2, hi2, ha0, ha1, ha2⟩ := info_parts info_str
  obtain ⟨ib, hib, hx0, hx1, hx2⟩ := info_parts info_bool
  have e1 : l.length = n := by have := hr.1; rw [vs_length] at this; omega
  have HE : Hid (l.length = n) := Lib.hid e1
  have HCK := Lib.hid (ckE_ok hck)
  have HI := Lib.hid hi
  clear e1 hck hi
  go_enter Tryz.func103, Tryz.ntmps103
  go_wp2_with fail
  go_loopw [5, 6, 7, 8, 9] (fun s5 s6 s7 s8 s9 wr => ∃ k : Nat, k ≤ n ∧ s9 = .int .i64 (k : Int) ∧ s8 = .bool (anyN l k) ∧
    Thr wr w.heap.size 4 2 9 s5 s6 s7 k (ints (l.take k)).length (wrds (l.take k)).length (bl (non l) k) (zs (ints (l.take k))) (ts (wrds (l.take k))) ∧ Below w.heap.size w wr) (fun _ _ _ _ i _ => n - (intOf i).toNat)
  case atStart => exact ⟨0, Nat.zero_le _, rfl, rfl, Thr.nil _ _ _ _ _, Below.refl _ _⟩
  case round =>
    obtain ⟨k, hk, rfl, rfl, ht, hb⟩ := hrel
    by_cases hlt : k < n
    · obtain ⟨⟨v0, v1, z⟩, hz⟩ : ∃ v, l[k]? = some v := ⟨_, List.getElem?_eq_getElem (by rw [HE.out]; omega)⟩
      have hrd := fun (W : World) (h : Below w.heap.size w W) => (hr.below h).val hz
      obtain ⟨b, o, rfl, hbk, x0, x1, x2⟩ := hrd wr hb
      have HRD : Hid (∀ W, Below w.heap.size w W → W.cell? ⟨b, o + k * 3, none⟩ = some (.int .i64 v0) ∧ W.cell? ⟨b, o + k * 3 + 1, none⟩ = some (.int .i64 v1) ∧ W.cell? ⟨b, o + k * 3 + 2, none⟩ = some (.string ⟨z.toArray⟩)) := Lib.hid fun W h => by
        obtain ⟨b', o', e, _, c0, c1, c2⟩ := hrd W h
        cases e
        exact ⟨c0, c1, c2⟩
      have hli : (ints (l.take k)).length ≤ k := Nat.le_trans (ints_length_le _) (List.length_take_le _ _)
      have hlw : (wrds (l.take k)).length ≤ k := Nat.le_trans (wrds_length_le _) (List.length_take_le _ _)
      have HSI := Lib.hid (ints_step hz)
      have HSW := Lib.hid (wrds_step hz)
      have HSA := Lib.hid (anyN_step hz)
      have HSN := Lib.hid (non_at hz)
      have hkind := rgt_kind (HCK.out.2.2 _ (List.mem_of_getElem? hz))
      obtain ⟨LI, hLI⟩ : ∃ LI, LI = ints (l.take k) := ⟨_, rfl⟩
      obtain ⟨LW, hLW⟩ : ∃ LW, LW = wrds (l.take k) := ⟨_, rfl⟩
      obtain ⟨g, hg⟩ : ∃ g, anyN l k = g := ⟨_, rfl⟩
      rw [← hLI] at ht hli HSI
      rw [← hLW] at ht hlw HSW
      rw [hg] at HSA ⊢
      have hsz := hb.size
      clear hLI hLW hg hrd hz
      rcases hkind with e | ⟨e0, _, e2⟩ | ⟨e0, _, e2⟩
      · cases e
        have HS2 : Hid (ints (l.take (k + 1)) = LI ∧ wrds (l.take (k + 1)) = LW) := Lib.hid ⟨by rw [HSI.out]; simp, by rw [HSW.out]; simp⟩
        clear HSI HSW x1 x2
        cases g
        all_goals
          go_wp2_with (at_builtin
                       refine wpList_append_any _ rfl (.tmp 17) (.tmp 24) _ rfl w.heap.size 4 ib _ 1 1 Tryz.underlying31 hib hx0 hx1 hx2 rfl (by omega) u5 k (bl (non l) k) rfl
                         (ht.a.alloc _) (wr.heap.size + 1) (some ⟨wr.heap.size, 0, none⟩) 1 1 [.bool true] rfl (Reads.new wr _ _) (one_bool _) (by unfold maxLen; omega) (by omega) (by simp; omega) ?_
                       intro v3 w3 hown3 hg3 hat3
                       have hb3 := below_app hb ht.a hsz hg3
                       have hsz3 := hb3.size
                       have ht3 := ht.grown hown3 hg3 hat3
                       obtain ⟨y0, y1, y2⟩ := HRD.out w3 hb3)
          go_round
          case rel =>
            refine ⟨k + 1, by omega, by go_num, by rw [HSA.out]; rfl, ?_, hb3⟩
            rw [HS2.out.1, HS2.out.2, bl_snoc, HSN.out]
            exact ht3
          case measure => simp [intOf]; omega
      · obtain rfl : v0 = 1 := e0
        have HS2 : Hid (ints (l.take (k + 1)) = LI ++ [v1] ∧ wrds (l.take (k + 1)) = LW) := Lib.hid ⟨by rw [HSI.out]; simp, by rw [HSW.out]; simp⟩
        clear HSI HSW e2
        cases g
        all_goals
          go_wp2_with (first
            | (at_builtin
               refine wpList_append_any _ rfl (.tmp 17) (.tmp 24) _ rfl w.heap.size 4 ib _ 1 1 Tryz.underlying31 hib hx0 hx1 hx2 rfl (by omega) u5 k (bl (non l) k) rfl
                 (ht.a.alloc _) (wr.heap.size + 1) (some ⟨wr.heap.size, 0, none⟩) 1 1 [.bool false] rfl (Reads.new wr _ _) (one_bool _) (by unfold maxLen; omega) (by omega) (by simp; omega) ?_
               intro v3 w3 hown3 hg3 hat3
               have hb3 := below_app hb ht.a hsz hg3
               have hsz3 := hb3.size
               have ht3 := ht.grown hown3 hg3 hat3
               obtain ⟨y0, y1, y2⟩ := HRD.out w3 hb3)
            | (at_builtin
               refine wpList_append_any _ rfl (.tmp 41) (.tmp 47) _ rfl w.heap.size 2 i1 _ 1 8 Tryz.underlying142 hi1 hy0 hy1 hy2 rfl (by omega) u6 LI.length (zs LI) rfl
                 (ht3.b.alloc _) (w3.heap.size + 1) (some ⟨w3.heap.size, 0, none⟩) 1 1 [.int .i64 v1] rfl (Reads.new w3 _ _) (by intro u hu; simp at hu; rw [hu]; rfl) (by unfold maxLen; omega) (by omega) (by simp; omega) ?_
               intro v4 w4 hown4 hg4 hat4
               have hb4 := below_app hb3 ht3.b hsz3 hg4
               have ht4 := (ht3.rot.grown hown4 hg4 hat4).rot.rot
               obtain ⟨z0, z1, z2⟩ := HRD.out w4 hb4))
          go_round
          case rel =>
            refine ⟨k + 1, by omega, by go_num, by rw [HSA.out]; rfl, ?_, hb4⟩
            rw [HS2.out.1, HS2.out.2, bl_snoc, HSN.out, zs_append, List.length_append]
            exact ht4
          case measure => simp [intOf]; omega
      · obtain rfl : v0 = 2 := e0
        have HS2 : Hid (ints (l.take (k + 1)) = LI ∧ wrds (l.take (k + 1)) = LW ++ [z]) := Lib.hid ⟨by rw [HSI.out]; simp, by rw [HSW.out]; simp⟩
        clear HSI HSW e2
        cases g
        all_goals
          go_wp2_with (first
            | (at_builtin
               refine wpList_append_any _ rfl (.tmp 17) (.tmp 24) _ rfl w.heap.size 4 ib _ 1 1 Tryz.underlying31 hib hx0 hx1 hx2 rfl (by omega) u5 k (bl (non l) k) rfl
                 (ht.a.alloc _) (wr.heap.size + 1) (some ⟨wr.heap.size, 0, none⟩) 1 1 [.bool false] rfl (Reads.new wr _ _) (one_bool _) (by unfold maxLen; omega) (by omega) (by simp; omega) ?_
               intro v3 w3 hown3 hg3 hat3
               have hb3 := below_app hb ht.a hsz hg3
               have hsz3 := hb3.size
               have ht3 := ht.grown hown3 hg3 hat3
               obtain ⟨y0, y1, y2⟩ := HRD.out w3 hb3)
            | (at_builtin
               refine wpList_append_any _ rfl (.tmp 55) (.tmp 61) _ rfl w.heap.size 9 i2 _ 1 16 Tryz.underlying175 hi2 ha0 ha1 ha2 rfl (by omega) u7 LW.length (ts LW) rfl
                 (ht3.c.alloc _) (w3.heap.size + 1) (some ⟨w3.heap.size, 0, none⟩) 1 1 [.string ⟨z.toArray⟩] rfl (Reads.new w3 _ _) (by intro u hu; simp at hu; rw [hu]; rfl) (by unfold maxLen; omega) (by omega) (by simp; omega) ?_
               intro v4 w4 hown4 hg4 hat4
               have hb4 := below_app hb3 ht3.c hsz3 hg4
               have ht4 := (ht3.rot.rot.grown hown4 hg4 hat4).rot
               obtain ⟨z0, z1, z2⟩ := HRD.out w4 hb4))
          go_round
          case rel =>
            refine ⟨k + 1, by omega, by go_num, by rw [HSA.out]; rfl, ?_, hb4⟩
            rw [HS2.out.1, HS2.out.2, bl_snoc, HSN.out, ts_append, List.length_append]
            exact ht4
          case measure => simp [intOf]; omega
    · obtain rfl : k = n := by omega
      rw [List.take_of_length_le (by rw [HE.out]; exact Nat.le_refl _)] at ht
      have hli : (ints l).length ≤ k := by rw [← HE.out]; exact ints_length_le l
      have hlw : (wrds l).length ≤ k := by rw [← HE.out]; exact wrds_length_le l
      obtain ⟨A5, c5, rfl, hc5, hm5, r5⟩ := own_slice ht.a
      obtain ⟨A6, c6, rfl, hc6, hm6, r6⟩ := own_slice ht.b
      obtain ⟨A7, c7, rfl, hc7, hm7, r7⟩ := own_slice ht.c
      have hII := Lib.hid (ints_in HI.out)
      have hWS := Lib.hid (wrds_short HCK.out.2.1)
      have hFl := frm_length (way := way) (HCK.out.1) HI.out HCK.out.2.1
      obtain ⟨F, hF⟩ : ∃ F, F = frm way l := ⟨_, rfl⟩
      rw [← hF] at hFl
      have HFF := Lib.hid hF
      have hsz := hb.size
      have hww : IntKind.u8.wrap (way : Int) = (way : Int) := IntWalk.u8_in _ (by omega)
      clear hF ht hk hlt
      have HW : Hid (way = 0 ∨ way = 1 ∨ way = 2 ∨ way = 3 ∨ way = 4 ∨ way = 5) := Lib.hid (by omega)
      have HO0 : Hid ((wr.alloc (.cells #[.int .u8 0] 5)).ownsRow wr.heap.size 5 1 (.slice (some ⟨wr.heap.size, 0, none⟩) 1 1) 1 (bs [0])) := Lib.hid (own_new wr #[.int .u8 0] 1 5 (bs [0]) (by unfold maxLen; omega) rfl rfl)
      cases hg : anyN l k with
      | false =>
        have HH := Lib.hid (headB_no HE.out hg)
        clear hg
        rcases HW.out with rfl | rfl | rfl | rfl | rfl | rfl
        · have HC := Lib.hid (fun (W : World) (h : Below wr.heap.size wr W) => (show Calls Tryz.prog 154 #[.slice A6 (ints l).length c6] W (New W (bs F) F.length) from by
            rw [HFF.out]
            exact refPlPut_any A6 _ c6 (ints l) W (r6.next h) hII.out (by omega)))
          have hPl : (headB l ++ [0]).length ≤ 8194 := by rw [HH.out]; simp
          have HRN : Hid (Reads ((wr.alloc (.cells #[.int .u8 0] 5)).alloc (.cells #[.int .u8 0] 5)) (wr.heap.size + 1 + 1) 1 (some ⟨wr.heap.size + 1, 0, none⟩) 1 [.int .u8 0]) := Lib.hid (by
            have := Reads.new (wr.alloc (.cells #[.int .u8 0] 5)) (.int .u8 0) 5
            simpa using this)
          go_wp2_with (first
            | (at_builtin
               refine wpList_append_any _ rfl (.tmp 69) (.tmp 72) _ rfl wr.heap.size 5 i0 _ 1 1 Tryz.underlying66 hi0 hz0 hz1 hz2 rfl (by omega) (.slice (some ⟨wr.heap.size, 0, none⟩) 1 1) 1 (bs [0]) rfl
                 (HO0.out.alloc _) (wr.heap.size + 1 + 1) (some ⟨wr.heap.size + 1, 0, none⟩) 1 1 [.int .u8 0] rfl HRN.out (by intro u hu; simp at hu; rw [hu]; rfl) (by unfold maxLen; omega) (by omega) (by simp <;> omega) ?_
               intro v3 w3 hown3 hg3 hat3
               have hX : w3.ownsRow wr.heap.size 5 1 v3 (headB l ++ [0]).length (bs (headB l ++ [0])) := by rw [HH.out]; exact hown3
               have hbX : Below wr.heap.size wr w3 := (((Below.refl _ _).alloc (Nat.le_refl _) _).alloc (by simp <;> omega) _).grown hg3 (by simp <;> omega) (fun q hq => by simp [Value.ownBlock] at hq; omega))
            | (go_at_call 154; refine (HC.out _ hbX).mono ?_; intro e w4 hN4; obtain ⟨A9, c9, rfl, hc9, r9, hb4⟩ := hN4.opened)
            | (at_builtin
               refine wpList_append_any _ rfl (.tmp 77) (.tmp 79) _ rfl wr.heap.size 5 i0 _ 1 1 Tryz.underlying66 hi0 hz0 hz1 hz2 rfl (by omega) v3 (headB l ++ [0]).length (bs (headB l ++ [0])) rfl
                 (own_below hX hb4) w4.heap.size A9 F.length c9 (bs F) rfl r9 (bs_one _) (by unfold maxLen; omega) (by omega) (by have := hbX.size; have := hb4.size; omega) ?_
               intro v5 w5 hown5 hg5 hat5))
          go_ret
          refine ⟨v5, rfl, ?_, (hb.trans ((hbX.trans (hb4.mono hbX.size)).mono hsz)).grown hg5 (by have := hbX.size; have := hb4.size; omega) (fun q hq => by have := ((own_below hX hb4).lt q hq).1; omega)⟩
          rw [show lyB l 0 = headB l ++ [0] ++ F from by rw [HFF.out]; rfl, bs_append, List.length_append]
          exact own_base hown5 hsz
        · have HC := Lib.hid (fun (W : World) (h : Below wr.heap.size wr W) => (show Calls Tryz.prog 155 #[.slice A6 (ints l).length c6] W (New W (bs F) F.length) from by
            rw [HFF.out]
            exact refRnPut_any A6 _ c6 (ints l) W (r6.next h) hII.out (by omega)))
          have hPl : (headB l ++ [1]).length ≤ 8194 := by rw [HH.out]; simp
          have HRN : Hid (Reads ((wr.alloc (.cells #[.int .u8 0] 5)).alloc (.cells #[.int .u8 1] 5)) (wr.heap.size + 1 + 1) 1 (some ⟨wr.heap.size + 1, 0, none⟩) 1 [.int .u8 1]) := Lib.hid (by
            have := Reads.new (wr.alloc (.cells #[.int .u8 0] 5)) (.int .u8 1) 5
            simpa using this)
          go_wp2_with (first
            | (at_builtin
               refine wpList_append_any _ rfl (.tmp 69) (.tmp 72) _ rfl wr.heap.size 5 i0 _ 1 1 Tryz.underlying66 hi0 hz0 hz1 hz2 rfl (by omega) (.slice (some ⟨wr.heap.size, 0, none⟩) 1 1) 1 (bs [0]) rfl
                 (HO0.out.alloc _) (wr.heap.size + 1 + 1) (some ⟨wr.heap.size + 1, 0, none⟩) 1 1 [.int .u8 1] rfl HRN.out (by intro u hu; simp at hu; rw [hu]; rfl) (by unfold maxLen; omega) (by omega) (by simp <;> omega) ?_
               intro v3 w3 hown3 hg3 hat3
               have hX : w3.ownsRow wr.heap.size 5 1 v3 (headB l ++ [1]).length (bs (headB l ++ [1])) := by rw [HH.out]; exact hown3
               have hbX : Below wr.heap.size wr w3 := (((Below.refl _ _).alloc (Nat.le_refl _) _).alloc (by simp <;> omega) _).grown hg3 (by simp <;> omega) (fun q hq => by simp [Value.ownBlock] at hq; omega))
            | (go_at_call 155; refine (HC.out _ hbX).mono ?_; intro e w4 hN4; obtain ⟨A9, c9, rfl, hc9, r9, hb4⟩ := hN4.opened)
            | (at_builtin
               refine wpList_append_any _ rfl (.tmp 83) (.tmp 85) _ rfl wr.heap.size 5 i0 _ 1 1 Tryz.underlying66 hi0 hz0 hz1 hz2 rfl (by omega) v3 (headB l ++ [1]).length (bs (headB l ++ [1])) rfl
                 (own_below hX hb4) w4.heap.size A9 F.length c9 (bs F) rfl r9 (bs_one _) (by unfold maxLen; omega) (by omega) (by have := hbX.size; have := hb4.size; omega) ?_
               intro v5 w5 hown5 hg5 hat5))
          go_ret
          refine ⟨v5, rfl, ?_, (hb.trans ((hbX.trans (hb4.mono hbX.size)).mono hsz)).grown hg5 (by have := hbX.size; have := hb4.size; omega) (fun q hq => by have := ((own_below hX hb4).lt q hq).1; omega)⟩
          rw [show lyB l 1 = headB l ++ [1] ++ F from by rw [HFF.out]; rfl, bs_append, List.length_append]
          exact own_base hown5 hsz
        · have HC := Lib.hid (fun (W : World) (h : Below wr.heap.size wr W) => (show Calls Tryz.prog 156 #[.slice A6 (ints l).length c6] W (New W (bs F) F.length) from by
            rw [HFF.out]
            exact refDl_any A6 _ c6 (ints l) W (r6.next h) hII.out hc6 (by omega)))
          have hPl : (headB l ++ [2]).length ≤ 8194 := by rw [HH.out]; simp
          have HRN : Hid (Reads ((wr.alloc (.cells #[.int .u8 0] 5)).alloc (.cells #[.int .u8 2] 5)) (wr.heap.size + 1 + 1) 1 (some ⟨wr.heap.size + 1, 0, none⟩) 1 [.int .u8 2]) := Lib.hid (by
            have := Reads.new (wr.alloc (.cells #[.int .u8 0] 5)) (.int .u8 2) 5
            simpa using this)
          go_wp2_with (first
            | (at_builtin
               refine wpList_append_any _ rfl (.tmp 69) (.tmp 72) _ rfl wr.heap.size 5 i0 _ 1 1 Tryz.underlying66 hi0 hz0 hz1 hz2 rfl (by omega) (.slice (some ⟨wr.heap.size, 0, none⟩) 1 1) 1 (bs [0]) rfl
                 (HO0.out.alloc _) (wr.heap.size + 1 + 1) (some ⟨wr.heap.size + 1, 0, none⟩) 1 1 [.int .u8 2] rfl HRN.out (by intro u hu; simp at hu; rw [hu]; rfl) (by unfold maxLen; omega) (by omega) (by simp <;> omega) ?_
               intro v3 w3 hown3 hg3 hat3
               have hX : w3.ownsRow wr.heap.size 5 1 v3 (headB l ++ [2]).length (bs (headB l ++ [2])) := by rw [HH.out]; exact hown3
               have hbX : Below wr.heap.size wr w3 := (((Below.refl _ _).alloc (Nat.le_refl _) _).alloc (by simp <;> omega) _).grown hg3 (by simp <;> omega) (fun q hq => by simp [Value.ownBlock] at hq; omega))
            | (go_at_call 156; refine (HC.out _ hbX).mono ?_; intro e w4 hN4; obtain ⟨A9, c9, rfl, hc9, r9, hb4⟩ := hN4.opened)
            | (at_builtin
               refine wpList_append_any _ rfl (.tmp 89) (.tmp 91) _ rfl wr.heap.size 5 i0 _ 1 1 Tryz.underlying66 hi0 hz0 hz1 hz2 rfl (by omega) v3 (headB l ++ [2]).length (bs (headB l ++ [2])) rfl
                 (own_below hX hb4) w4.heap.size A9 F.length c9 (bs F) rfl r9 (bs_one _) (by unfold maxLen; omega) (by omega) (by have := hbX.size; have := hb4.size; omega) ?_
               intro v5 w5 hown5 hg5 hat5))
          go_ret
          refine ⟨v5, rfl, ?_, (hb.trans ((hbX.trans (hb4.mono hbX.size)).mono hsz)).grown hg5 (by have := hbX.size; have := hb4.size; omega) (fun q hq => by have := ((own_below hX hb4).lt q hq).1; omega)⟩
          rw [show lyB l 2 = headB l ++ [2] ++ F from by rw [HFF.out]; rfl, bs_append, List.length_append]
          exact own_base hown5 hsz
        · have HC := Lib.hid (fun (W : World) (h : Below wr.heap.size wr W) => (show Calls Tryz.prog 157 #[.slice A6 (ints l).length c6] W (New W (bs F) F.length) from by
            rw [HFF.out]
            exact refDc_any A6 _ c6 (ints l) W (r6.next h) hII.out (by omega)))
          have hPl : (headB l ++ [3]).length ≤ 8194 := by rw [HH.out]; simp
          have HRN : Hid (Reads ((wr.alloc (.cells #[.int .u8 0] 5)).alloc (.cells #[.int .u8 3] 5)) (wr.heap.size + 1 + 1) 1 (some ⟨wr.heap.size + 1, 0, none⟩) 1 [.int .u8 3]) := Lib.hid (by
            have := Reads.new (wr.alloc (.cells #[.int .u8 0] 5)) (.int .u8 3) 5
            simpa using this)
          go_wp2_with (first
            | (at_builtin
               refine wpList_append_any _ rfl (.tmp 69) (.tmp 72) _ rfl wr.heap.size 5 i0 _ 1 1 Tryz.underlying66 hi0 hz0 hz1 hz2 rfl (by omega) (.slice (some ⟨wr.heap.size, 0, none⟩) 1 1) 1 (bs [0]) rfl
                 (HO0.out.alloc _) (wr.heap.size + 1 + 1) (some ⟨wr.heap.size + 1, 0, none⟩) 1 1 [.int .u8 3] rfl HRN.out (by intro u hu; simp at hu; rw [hu]; rfl) (by unfold maxLen; omega) (by omega) (by simp <;> omega) ?_
               intro v3 w3 hown3 hg3 hat3
               have hX : w3.ownsRow wr.heap.size 5 1 v3 (headB l ++ [3]).length (bs (headB l ++ [3])) := by rw [HH.out]; exact hown3
               have hbX : Below wr.heap.size wr w3 := (((Below.refl _ _).alloc (Nat.le_refl _) _).alloc (by simp <;> omega) _).grown hg3 (by simp <;> omega) (fun q hq => by simp [Value.ownBlock] at hq; omega))
            | (go_at_call 157; refine (HC.out _ hbX).mono ?_; intro e w4 hN4; obtain ⟨A9, c9, rfl, hc9, r9, hb4⟩ := hN4.opened)
            | (at_builtin
               refine wpList_append_any _ rfl (.tmp 95) (.tmp 97) _ rfl wr.heap.size 5 i0 _ 1 1 Tryz.underlying66 hi0 hz0 hz1 hz2 rfl (by omega) v3 (headB l ++ [3]).length (bs (headB l ++ [3])) rfl
                 (own_below hX hb4) w4.heap.size A9 F.length c9 (bs F) rfl r9 (bs_one _) (by unfold maxLen; omega) (by omega) (by have := hbX.size; have := hb4.size; omega) ?_
               intro v5 w5 hown5 hg5 hat5))
          go_ret
          refine ⟨v5, rfl, ?_, (hb.trans ((hbX.trans (hb4.mono hbX.size)).mono hsz)).grown hg5 (by have := hbX.size; have := hb4.size; omega) (fun q hq => by have := ((own_below hX hb4).lt q hq).1; omega)⟩
          rw [show lyB l 3 = headB l ++ [3] ++ F from by rw [HFF.out]; rfl, bs_append, List.length_append]
          exact own_base hown5 hsz
        · have HC := Lib.hid (fun (W : World) (h : Below wr.heap.size wr W) => (show Calls Tryz.prog 158 #[.slice A6 (ints l).length c6] W (New W (bs F) F.length) from by
            rw [HFF.out]
            exact refFo_any A6 _ c6 (ints l) W (r6.next h) hII.out (by omega)))
          have hPl : (headB l ++ [4]).length ≤ 8194 := by rw [HH.out]; simp
          have HRN : Hid (Reads ((wr.alloc (.cells #[.int .u8 0] 5)).alloc (.cells #[.int .u8 4] 5)) (wr.heap.size + 1 + 1) 1 (some ⟨wr.heap.size + 1, 0, none⟩) 1 [.int .u8 4]) := Lib.hid (by
            have := Reads.new (wr.alloc (.cells #[.int .u8 0] 5)) (.int .u8 4) 5
            simpa using this)
          go_wp2_with (first
            | (at_builtin
               refine wpList_append_any _ rfl (.tmp 69) (.tmp 72) _ rfl wr.heap.size 5 i0 _ 1 1 Tryz.underlying66 hi0 hz0 hz1 hz2 rfl (by omega) (.slice (some ⟨wr.heap.size, 0, none⟩) 1 1) 1 (bs [0]) rfl
                 (HO0.out.alloc _) (wr.heap.size + 1 + 1) (some ⟨wr.heap.size + 1, 0, none⟩) 1 1 [.int .u8 4] rfl HRN.out (by intro u hu; simp at hu; rw [hu]; rfl) (by unfold maxLen; omega) (by omega) (by simp <;> omega) ?_
               intro v3 w3 hown3 hg3 hat3
               have hX : w3.ownsRow wr.heap.size 5 1 v3 (headB l ++ [4]).length (bs (headB l ++ [4])) := by rw [HH.out]; exact hown3
               have hbX : Below wr.heap.size wr w3 := (((Below.refl _ _).alloc (Nat.le_refl _) _).alloc (by simp <;> omega) _).grown hg3 (by simp <;> omega) (fun q hq => by simp [Value.ownBlock] at hq; omega))
            | (go_at_call 158; refine (HC.out _ hbX).mono ?_; intro e w4 hN4; obtain ⟨A9, c9, rfl, hc9, r9, hb4⟩ := hN4.opened)
            | (at_builtin
               refine wpList_append_any _ rfl (.tmp 101) (.tmp 103) _ rfl wr.heap.size 5 i0 _ 1 1 Tryz.underlying66 hi0 hz0 hz1 hz2 rfl (by omega) v3 (headB l ++ [4]).length (bs (headB l ++ [4])) rfl
                 (own_below hX hb4) w4.heap.size A9 F.length c9 (bs F) rfl r9 (bs_one _) (by unfold maxLen; omega) (by omega) (by have := hbX.size; have := hb4.size; omega) ?_
               intro v5 w5 hown5 hg5 hat5))
          go_ret
          refine ⟨v5, rfl, ?_, (hb.trans ((hbX.trans (hb4.mono hbX.size)).mono hsz)).grown hg5 (by have := hbX.size; have := hb4.size; omega) (fun q hq => by have := ((own_below hX hb4).lt q hq).1; omega)⟩
          rw [show lyB l 4 = headB l ++ [4] ++ F from by rw [HFF.out]; rfl, bs_append, List.length_append]
          exact own_base hown5 hsz
        · have HC := Lib.hid (fun (W : World) (h : Below wr.heap.size wr W) => (show Calls Tryz.prog 159 #[.slice A7 (wrds l).length c7] W (New W (bs F) F.length) from by
            rw [HFF.out]
            exact refTx_any A7 _ c7 (wrds l) W (r7.next h) (by omega) hWS.out))
          have hPl : (headB l ++ [5]).length ≤ 8194 := by rw [HH.out]; simp
          have HRN : Hid (Reads ((wr.alloc (.cells #[.int .u8 0] 5)).alloc (.cells #[.int .u8 5] 5)) (wr.heap.size + 1 + 1) 1 (some ⟨wr.heap.size + 1, 0, none⟩) 1 [.int .u8 5]) := Lib.hid (by
            have := Reads.new (wr.alloc (.cells #[.int .u8 0] 5)) (.int .u8 5) 5
            simpa using this)
          go_wp2_with (first
            | (at_builtin
               refine wpList_append_any _ rfl (.tmp 69) (.tmp 72) _ rfl wr.heap.size 5 i0 _ 1 1 Tryz.underlying66 hi0 hz0 hz1 hz2 rfl (by omega) (.slice (some ⟨wr.heap.size, 0, none⟩) 1 1) 1 (bs [0]) rfl
                 (HO0.out.alloc _) (wr.heap.size + 1 + 1) (some ⟨wr.heap.size + 1, 0, none⟩) 1 1 [.int .u8 5] rfl HRN.out (by intro u hu; simp at hu; rw [hu]; rfl) (by unfold maxLen; omega) (by omega) (by simp <;> omega) ?_
               intro v3 w3 hown3 hg3 hat3
               have hX : w3.ownsRow wr.heap.size 5 1 v3 (headB l ++ [5]).length (bs (headB l ++ [5])) := by rw [HH.out]; exact hown3
               have hbX : Below wr.heap.size wr w3 := (((Below.refl _ _).alloc (Nat.le_refl _) _).alloc (by simp <;> omega) _).grown hg3 (by simp <;> omega) (fun q hq => by simp [Value.ownBlock] at hq; omega))
            | (go_at_call 159; refine (HC.out _ hbX).mono ?_; intro e w4 hN4; obtain ⟨A9, c9, rfl, hc9, r9, hb4⟩ := hN4.opened)
            | (at_builtin
               refine wpList_append_any _ rfl (.tmp 105) (.tmp 107) _ rfl wr.heap.size 5 i0 _ 1 1 Tryz.underlying66 hi0 hz0 hz1 hz2 rfl (by omega) v3 (headB l ++ [5]).length (bs (headB l ++ [5])) rfl
                 (own_below hX hb4) w4.heap.size A9 F.length c9 (bs F) rfl r9 (bs_one _) (by unfold maxLen; omega) (by omega) (by have := hbX.size; have := hb4.size; omega) ?_
               intro v5 w5 hown5 hg5 hat5))
          go_ret
          refine ⟨v5, rfl, ?_, (hb.trans ((hbX.trans (hb4.mono hbX.size)).mono hsz)).grown hg5 (by have := hbX.size; have := hb4.size; omega) (fun q hq => by have := ((own_below hX hb4).lt q hq).1; omega)⟩
          rw [show lyB l 5 = headB l ++ [5] ++ F from by rw [HFF.out]; rfl, bs_append, List.length_append]
          exact own_base hown5 hsz
      | true =>
        have HH := Lib.hid (headB_yes HE.out hg)
        obtain ⟨hok, hbits⟩ := setB_ok (non l) k
        have hlS := setB_length (non l) k
        have HBY := Lib.hid (fun (W : World) (h : Below wr.heap.size wr W) => refBytes_any A5 k c5 (setB (non l) k) W (by rw [bl_congr hbits]; exact r5.next h) hn hok)
        obtain ⟨S, hS⟩ : ∃ S, S = setB (non l) k := ⟨_, rfl⟩
        rw [← hS] at HH HBY hlS
        have hSl : S.length ≤ 8192 := by rw [hlS]; unfold siz; omega
        have HO1 : Hid (((wr.alloc (.cells #[.int .u8 0] 5)).alloc (.cells #[.int .u8 1] 5)).ownsRow wr.heap.size 5 1 (.slice (some ⟨wr.heap.size + 1, 0, none⟩) 1 1) 1 (bs [1])) := Lib.hid (by
          have := own_base (own_new (wr.alloc (.cells #[.int .u8 0] 5)) #[.int .u8 1] 1 5 (bs [1]) (by unfold maxLen; omega) rfl rfl) (base' := wr.heap.size) (by simp)
          simpa using this)
        have hb0 : Below wr.heap.size wr ((wr.alloc (.cells #[.int .u8 0] 5)).alloc (.cells #[.int .u8 1] 5)) := ((Below.refl _ _).alloc (Nat.le_refl _) _).alloc (by simp <;> omega) _
        clear hg hok hbits hlS hS
        rcases HW.out with rfl | rfl | rfl | rfl | rfl | rfl
        · have HC := Lib.hid (fun (W : World) (h : Below wr.heap.size wr W) => (show Calls Tryz.prog 154 #[.slice A6 (ints l).length c6] W (New W (bs F) F.length) from by
            rw [HFF.out]
            exact refPlPut_any A6 _ c6 (ints l) W (r6.next h) hII.out (by omega)))
          have hPl : (headB l ++ [0]).length ≤ 8194 := by rw [HH.out]; simp <;> omega
          have HX1 : Hid ((headB l ++ [0]).length = 1 + S.length + 1 ∧ bs (headB l ++ [0]) = bs [1] ++ bs S ++ [.int .u8 0]) := Lib.hid (by rw [HH.out]; exact ⟨by simp <;> omega, by simp [bs]⟩)
          go_wp2_with (first
            | (go_at_call 32; refine (HBY.out _ hb0).mono ?_; intro e w2 hN2; obtain ⟨A8, c8, rfl, hc8, r8, hb2⟩ := hN2.opened)
            | (at_builtin
               refine wpList_append_any _ rfl (.tmp 65) (.tmp 67) _ rfl wr.heap.size 5 i0 _ 1 1 Tryz.underlying66 hi0 hz0 hz1 hz2 rfl (by omega) (.slice (some ⟨wr.heap.size + 1, 0, none⟩) 1 1) 1 (bs [1]) rfl
                 (own_below HO1.out hb2) w2.heap.size A8 S.length c8 (bs S) rfl r8 (bs_one _) (by unfold maxLen; omega) (by omega) (by have := hb0.size; have := hb2.size; omega) ?_
               intro v6 w6 hown6 hg6 hat6
               have hb6 : Below wr.heap.size wr w6 := (hb0.trans (hb2.mono hb0.size)).grown hg6 (by have := hb0.size; have := hb2.size; omega) (fun q hq => by simp [Value.ownBlock] at hq; omega)
               have hsz6 := hb6.size)
            | (at_builtin
               refine wpList_append_any _ rfl (.tmp 69) (.tmp 72) _ rfl wr.heap.size 5 i0 _ 1 1 Tryz.underlying66 hi0 hz0 hz1 hz2 rfl (by omega) v6 (1 + S.length) (bs [1] ++ bs S) rfl
                 (hown6.alloc _) (w6.heap.size + 1) (some ⟨w6.heap.size, 0, none⟩) 1 1 [.int .u8 0] rfl (Reads.new w6 _ _) (by intro u hu; simp at hu; rw [hu]; rfl) (by unfold maxLen; omega) (by omega) (by simp <;> omega) ?_
               intro v3 w3 hown3 hg3 hat3
               have hX : w3.ownsRow wr.heap.size 5 1 v3 (headB l ++ [0]).length (bs (headB l ++ [0])) := by rw [HX1.out.1, HX1.out.2]; exact hown3
               have hbX : Below wr.heap.size wr w3 := below_app hb6 hown6 hsz6 hg3)
            | (go_at_call 154; refine (HC.out _ hbX).mono ?_; intro e w4 hN4; obtain ⟨A9, c9, rfl, hc9, r9, hb4⟩ := hN4.opened)
            | (at_builtin
               refine wpList_append_any _ rfl (.tmp 77) (.tmp 79) _ rfl wr.heap.size 5 i0 _ 1 1 Tryz.underlying66 hi0 hz0 hz1 hz2 rfl (by omega) v3 (headB l ++ [0]).length (bs (headB l ++ [0])) rfl
                 (own_below hX hb4) w4.heap.size A9 F.length c9 (bs F) rfl r9 (bs_one _) (by unfold maxLen; omega) (by omega) (by have := hbX.size; have := hb4.size; omega) ?_
               intro v5 w5 hown5 hg5 hat5))
          go_ret
          refine ⟨v5, rfl, ?_, (hb.trans ((hbX.trans (hb4.mono hbX.size)).mono hsz)).grown hg5 (by have := hbX.size; have := hb4.size; omega) (fun q hq => by have := ((own_below hX hb4).lt q hq).1; omega)⟩
          rw [show lyB l 0 = headB l ++ [0] ++ F from by rw [HFF.out]; rfl, bs_append, List.length_append]
          exact own_base hown5 hsz
        · have HC := Lib.hid (fun (W : World) (h : Below wr.heap.size wr W) => (show Calls Tryz.prog 155 #[.slice A6 (ints l).length c6] W (New W (bs F) F.length) from by
            rw [HFF.out]
            exact refRnPut_any A6 _ c6 (ints l) W (r6.next h) hII.out (by omega)))
          have hPl : (headB l ++ [1]).length ≤ 8194 := by rw [HH.out]; simp <;> omega
          have HX1 : Hid ((headB l ++ [1]).length = 1 + S.length + 1 ∧ bs (headB l ++ [1]) = bs [1] ++ bs S ++ [.int .u8 1]) := Lib.hid (by rw [HH.out]; exact ⟨by simp <;> omega, by simp [bs]⟩)
          go_wp2_with (first
            | (go_at_call 32; refine (HBY.out _ hb0).mono ?_; intro e w2 hN2; obtain ⟨A8, c8, rfl, hc8, r8, hb2⟩ := hN2.opened)
            | (at_builtin
               refine wpList_append_any _ rfl (.tmp 65) (.tmp 67) _ rfl wr.heap.size 5 i0 _ 1 1 Tryz.underlying66 hi0 hz0 hz1 hz2 rfl (by omega) (.slice (some ⟨wr.heap.size + 1, 0, none⟩) 1 1) 1 (bs [1]) rfl
                 (own_below HO1.out hb2) w2.heap.size A8 S.length c8 (bs S) rfl r8 (bs_one _) (by unfold maxLen; omega) (by omega) (by have := hb0.size; have := hb2.size; omega) ?_
               intro v6 w6 hown6 hg6 hat6
               have hb6 : Below wr.heap.size wr w6 := (hb0.trans (hb2.mono hb0.size)).grown hg6 (by have := hb0.size; have := hb2.size; omega) (fun q hq => by simp [Value.ownBlock] at hq; omega)
               have hsz6 := hb6.size)
            | (at_builtin
               refine wpList_append_any _ rfl (.tmp 69) (.tmp 72) _ rfl wr.heap.size 5 i0 _ 1 1 Tryz.underlying66 hi0 hz0 hz1 hz2 rfl (by omega) v6 (1 + S.length) (bs [1] ++ bs S) rfl
                 (hown6.alloc _) (w6.heap.size + 1) (some ⟨w6.heap.size, 0, none⟩) 1 1 [.int .u8 1] rfl (Reads.new w6 _ _) (by intro u hu; simp at hu; rw [hu]; rfl) (by unfold maxLen; omega) (by omega) (by simp <;> omega) ?_
               intro v3 w3 hown3 hg3 hat3
               have hX : w3.ownsRow wr.heap.size 5 1 v3 (headB l ++ [1]).length (bs (headB l ++ [1])) := by rw [HX1.out.1, HX1.out.2]; exact hown3
               have hbX : Below wr.heap.size wr w3 := below_app hb6 hown6 hsz6 hg3)
            | (go_at_call 155; refine (HC.out _ hbX).mono ?_; intro e w4 hN4; obtain ⟨A9, c9, rfl, hc9, r9, hb4⟩ := hN4.opened)
            | (at_builtin
               refine wpList_append_any _ rfl (.tmp 83) (.tmp 85) _ rfl wr.heap.size 5 i0 _ 1 1 Tryz.underlying66 hi0 hz0 hz1 hz2 rfl (by omega) v3 (headB l ++ [1]).length (bs (headB l ++ [1])) rfl
                 (own_below hX hb4) w4.heap.size A9 F.length c9 (bs F) rfl r9 (bs_one _) (by unfold maxLen; omega) (by omega) (by have := hbX.size; have := hb4.size; omega) ?_
               intro v5 w5 hown5 hg5 hat5))
          go_ret
          refine ⟨v5, rfl, ?_, (hb.trans ((hbX.trans (hb4.mono hbX.size)).mono hsz)).grown hg5 (by have := hbX.size; have := hb4.size; omega) (fun q hq => by have := ((own_below hX hb4).lt q hq).1; omega)⟩
          rw [show lyB l 1 = headB l ++ [1] ++ F from by rw [HFF.out]; rfl, bs_append, List.length_append]
          exact own_base hown5 hsz
        · have HC := Lib.hid (fun (W : World) (h : Below wr.heap.size wr W) => (show Calls Tryz.prog 156 #[.slice A6 (ints l).length c6] W (New W (bs F) F.length) from by
            rw [HFF.out]
            exact refDl_any A6 _ c6 (ints l) W (r6.next h) hII.out hc6 (by omega)))
          have hPl : (headB l ++ [2]).length ≤ 8194 := by rw [HH.out]; simp <;> omega
          have HX1 : Hid ((headB l ++ [2]).length = 1 + S.length + 1 ∧ bs (headB l ++ [2]) = bs [1] ++ bs S ++ [.int .u8 2]) := Lib.hid (by rw [HH.out]; exact ⟨by simp <;> omega, by simp [bs]⟩)
          go_wp2_with (first
            | (go_at_call 32; refine (HBY.out _ hb0).mono ?_; intro e w2 hN2; obtain ⟨A8, c8, rfl, hc8, r8, hb2⟩ := hN2.opened)
            | (at_builtin
               refine wpList_append_any _ rfl (.tmp 65) (.tmp 67) _ rfl wr.heap.size 5 i0 _ 1 1 Tryz.underlying66 hi0 hz0 hz1 hz2 rfl (by omega) (.slice (some ⟨wr.heap.size + 1, 0, none⟩) 1 1) 1 (bs [1]) rfl
                 (own_below HO1.out hb2) w2.heap.size A8 S.length c8 (bs S) rfl r8 (bs_one _) (by unfold maxLen; omega) (by omega) (by have := hb0.size; have := hb2.size; omega) ?_
               intro v6 w6 hown6 hg6 hat6
               have hb6 : Below wr.heap.size wr w6 := (hb0.trans (hb2.mono hb0.size)).grown hg6 (by have := hb0.size; have := hb2.size; omega) (fun q hq => by simp [Value.ownBlock] at hq; omega)
               have hsz6 := hb6.size)
            | (at_builtin
               refine wpList_append_any _ rfl (.tmp 69) (.tmp 72) _ rfl wr.heap.size 5 i0 _ 1 1 Tryz.underlying66 hi0 hz0 hz1 hz2 rfl (by omega) v6 (1 + S.length) (bs [1] ++ bs S) rfl
                 (hown6.alloc _) (w6.heap.size + 1) (some ⟨w6.heap.size, 0, none⟩) 1 1 [.int .u8 2] rfl (Reads.new w6 _ _) (by intro u hu; simp at hu; rw [hu]; rfl) (by unfold maxLen; omega) (by omega) (by simp <;> omega) ?_
               intro v3 w3 hown3 hg3 hat3
               have hX : w3.ownsRow wr.heap.size 5 1 v3 (headB l ++ [2]).length (bs (headB l ++ [2])) := by rw [HX1.out.1, HX1.out.2]; exact hown3
               have hbX : Below wr.heap.size wr w3 := below_app hb6 hown6 hsz6 hg3)
            | (go_at_call 156; refine (HC.out _ hbX).mono ?_; intro e w4 hN4; obtain ⟨A9, c9, rfl, hc9, r9, hb4⟩ := hN4.opened)
            | (at_builtin
               refine wpList_append_any _ rfl (.tmp 89) (.tmp 91) _ rfl wr.heap.size 5 i0 _ 1 1 Tryz.underlying66 hi0 hz0 hz1 hz2 rfl (by omega) v3 (headB l ++ [2]).length (bs (headB l ++ [2])) rfl
                 (own_below hX hb4) w4.heap.size A9 F.length c9 (bs F) rfl r9 (bs_one _) (by unfold maxLen; omega) (by omega) (by have := hbX.size; have := hb4.size; omega) ?_
               intro v5 w5 hown5 hg5 hat5))
          go_ret
          refine ⟨v5, rfl, ?_, (hb.trans ((hbX.trans (hb4.mono hbX.size)).mono hsz)).grown hg5 (by have := hbX.size; have := hb4.size; omega) (fun q hq => by have := ((own_below hX hb4).lt q hq).1; omega)⟩
          rw [show lyB l 2 = headB l ++ [2] ++ F from by rw [HFF.out]; rfl, bs_append, List.length_append]
          exact own_base hown5 hsz
        · have HC := Lib.hid (fun (W : World) (h : Below wr.heap.size wr W) => (show Calls Tryz.prog 157 #[.slice A6 (ints l).length c6] W (New W (bs F) F.length) from by
            rw [HFF.out]
            exact refDc_any A6 _ c6 (ints l) W (r6.next h) hII.out (by omega)))
          have hPl : (headB l ++ [3]).length ≤ 8194 := by rw [HH.out]; simp <;> omega
          have HX1 : Hid ((headB l ++ [3]).length = 1 + S.length + 1 ∧ bs (headB l ++ [3]) = bs [1] ++ bs S ++ [.int .u8 3]) := Lib.hid (by rw [HH.out]; exact ⟨by simp <;> omega, by simp [bs]⟩)
          go_wp2_with (first
            | (go_at_call 32; refine (HBY.out _ hb0).mono ?_; intro e w2 hN2; obtain ⟨A8, c8, rfl, hc8, r8, hb2⟩ := hN2.opened)
            | (at_builtin
               refine wpList_append_any _ rfl (.tmp 65) (.tmp 67) _ rfl wr.heap.size 5 i0 _ 1 1 Tryz.underlying66 hi0 hz0 hz1 hz2 rfl (by omega) (.slice (some ⟨wr.heap.size + 1, 0, none⟩) 1 1) 1 (bs [1]) rfl
                 (own_below HO1.out hb2) w2.heap.size A8 S.length c8 (bs S) rfl r8 (bs_one _) (by unfold maxLen; omega) (by omega) (by have := hb0.size; have := hb2.size; omega) ?_
               intro v6 w6 hown6 hg6 hat6
               have hb6 : Below wr.heap.size wr w6 := (hb0.trans (hb2.mono hb0.size)).grown hg6 (by have := hb0.size; have := hb2.size; omega) (fun q hq => by simp [Value.ownBlock] at hq; omega)
               have hsz6 := hb6.size)
            | (at_builtin
               refine wpList_append_any _ rfl (.tmp 69) (.tmp 72) _ rfl wr.heap.size 5 i0 _ 1 1 Tryz.underlying66 hi0 hz0 hz1 hz2 rfl (by omega) v6 (1 + S.length) (bs [1] ++ bs S) rfl
                 (hown6.alloc _) (w6.heap.size + 1) (some ⟨w6.heap.size, 0, none⟩) 1 1 [.int .u8 3] rfl (Reads.new w6 _ _) (by intro u hu; simp at hu; rw [hu]; rfl) (by unfold maxLen; omega) (by omega) (by simp <;> omega) ?_
               intro v3 w3 hown3 hg3 hat3
               have hX : w3.ownsRow wr.heap.size 5 1 v3 (headB l ++ [3]).length (bs (headB l ++ [3])) := by rw [HX1.out.1, HX1.out.2]; exact hown3
               have hbX : Below wr.heap.size wr w3 := below_app hb6 hown6 hsz6 hg3)
            | (go_at_call 157; refine (HC.out _ hbX).mono ?_; intro e w4 hN4; obtain ⟨A9, c9, rfl, hc9, r9, hb4⟩ := hN4.opened)
            | (at_builtin
               refine wpList_append_any _ rfl (.tmp 95) (.tmp 97) _ rfl wr.heap.size 5 i0 _ 1 1 Tryz.underlying66 hi0 hz0 hz1 hz2 rfl (by omega) v3 (headB l ++ [3]).length (bs (headB l ++ [3])) rfl
                 (own_below hX hb4) w4.heap.size A9 F.length c9 (bs F) rfl r9 (bs_one _) (by unfold maxLen; omega) (by omega) (by have := hbX.size; have := hb4.size; omega) ?_
               intro v5 w5 hown5 hg5 hat5))
          go_ret
          refine ⟨v5, rfl, ?_, (hb.trans ((hbX.trans (hb4.mono hbX.size)).mono hsz)).grown hg5 (by have := hbX.size; have := hb4.size; omega) (fun q hq => by have := ((own_below hX hb4).lt q hq).1; omega)⟩
          rw [show lyB l 3 = headB l ++ [3] ++ F from by rw [HFF.out]; rfl, bs_append, List.length_append]
          exact own_base hown5 hsz
        · have HC := Lib.hid (fun (W : World) (h : Below wr.heap.size wr W) => (show Calls Tryz.prog 158 #[.slice A6 (ints l).length c6] W (New W (bs F) F.length) from by
            rw [HFF.out]
            exact refFo_any A6 _ c6 (ints l) W (r6.next h) hII.out (by omega)))
          have hPl : (headB l ++ [4]).length ≤ 8194 := by rw [HH.out]; simp <;> omega
          have HX1 : Hid ((headB l ++ [4]).length = 1 + S.length + 1 ∧ bs (headB l ++ [4]) = bs [1] ++ bs S ++ [.int .u8 4]) := Lib.hid (by rw [HH.out]; exact ⟨by simp <;> omega, by simp [bs]⟩)
          go_wp2_with (first
            | (go_at_call 32; refine (HBY.out _ hb0).mono ?_; intro e w2 hN2; obtain ⟨A8, c8, rfl, hc8, r8, hb2⟩ := hN2.opened)
            | (at_builtin
               refine wpList_append_any _ rfl (.tmp 65) (.tmp 67) _ rfl wr.heap.size 5 i0 _ 1 1 Tryz.underlying66 hi0 hz0 hz1 hz2 rfl (by omega) (.slice (some ⟨wr.heap.size + 1, 0, none⟩) 1 1) 1 (bs [1]) rfl
                 (own_below HO1.out hb2) w2.heap.size A8 S.length c8 (bs S) rfl r8 (bs_one _) (by unfold maxLen; omega) (by omega) (by have := hb0.size; have := hb2.size; omega) ?_
               intro v6 w6 hown6 hg6 hat6
               have hb6 : Below wr.heap.size wr w6 := (hb0.trans (hb2.mono hb0.size)).grown hg6 (by have := hb0.size; have := hb2.size; omega) (fun q hq => by simp [Value.ownBlock] at hq; omega)
               have hsz6 := hb6.size)
            | (at_builtin
               refine wpList_append_any _ rfl (.tmp 69) (.tmp 72) _ rfl wr.heap.size 5 i0 _ 1 1 Tryz.underlying66 hi0 hz0 hz1 hz2 rfl (by omega) v6 (1 + S.length) (bs [1] ++ bs S) rfl
                 (hown6.alloc _) (w6.heap.size + 1) (some ⟨w6.heap.size, 0, none⟩) 1 1 [.int .u8 4] rfl (Reads.new w6 _ _) (by intro u hu; simp at hu; rw [hu]; rfl) (by unfold maxLen; omega) (by omega) (by simp <;> omega) ?_
               intro v3 w3 hown3 hg3 hat3
               have hX : w3.ownsRow wr.heap.size 5 1 v3 (headB l ++ [4]).length (bs (headB l ++ [4])) := by rw [HX1.out.1, HX1.out.2]; exact hown3
               have hbX : Below wr.heap.size wr w3 := below_app hb6 hown6 hsz6 hg3)
            | (go_at_call 158; refine (HC.out _ hbX).mono ?_; intro e w4 hN4; obtain ⟨A9, c9, rfl, hc9, r9, hb4⟩ := hN4.opened)
            | (at_builtin
               refine wpList_append_any _ rfl (.tmp 101) (.tmp 103) _ rfl wr.heap.size 5 i0 _ 1 1 Tryz.underlying66 hi0 hz0 hz1 hz2 rfl (by omega) v3 (headB l ++ [4]).length (bs (headB l ++ [4])) rfl
                 (own_below hX hb4) w4.heap.size A9 F.length c9 (bs F) rfl r9 (bs_one _) (by unfold maxLen; omega) (by omega) (by have := hbX.size; have := hb4.size; omega) ?_
               intro v5 w5 hown5 hg5 hat5))
          go_ret
          refine ⟨v5, rfl, ?_, (hb.trans ((hbX.trans (hb4.mono hbX.size)).mono hsz)).grown hg5 (by have := hbX.size; have := hb4.size; omega) (fun q hq => by have := ((own_below hX hb4).lt q hq).1; omega)⟩
          rw [show lyB l 4 = headB l ++ [4] ++ F from by rw [HFF.out]; rfl, bs_append, List.length_append]
          exact own_base hown5 hsz
        · have HC := Lib.hid (fun (W : World) (h : Below wr.heap.size wr W) => (show Calls Tryz.prog 159 #[.slice A7 (wrds l).length c7] W (New W (bs F) F.length) from by
            rw [HFF.out]
            exact refTx_any A7 _ c7 (wrds l) W (r7.next h) (by omega) hWS.out))
          have hPl : (headB l ++ [5]).length ≤ 8194 := by rw [HH.out]; simp <;> omega
          have HX1 : Hid ((headB l ++ [5]).length = 1 + S.length + 1 ∧ bs (headB l ++ [5]) = bs [1] ++ bs S ++ [.int .u8 5]) := Lib.hid (by rw [HH.out]; exact ⟨by simp <;> omega, by simp [bs]⟩)
          go_wp2_with (first
            | (go_at_call 32; refine (HBY.out _ hb0).mono ?_; intro e w2 hN2; obtain ⟨A8, c8, rfl, hc8, r8, hb2⟩ := hN2.opened)
            | (at_builtin
               refine wpList_append_any _ rfl (.tmp 65) (.tmp 67) _ rfl wr.heap.size 5 i0 _ 1 1 Tryz.underlying66 hi0 hz0 hz1 hz2 rfl (by omega) (.slice (some ⟨wr.heap.size + 1, 0, none⟩) 1 1) 1 (bs [1]) rfl
                 (own_below HO1.out hb2) w2.heap.size A8 S.length c8 (bs S) rfl r8 (bs_one _) (by unfold maxLen; omega) (by omega) (by have := hb0.size; have := hb2.size; omega) ?_
               intro v6 w6 hown6 hg6 hat6
               have hb6 : Below wr.heap.size wr w6 := (hb0.trans (hb2.mono hb0.size)).grown hg6 (by have := hb0.size; have := hb2.size; omega) (fun q hq => by simp [Value.ownBlock] at hq; omega)
               have hsz6 := hb6.size)
            | (at_builtin
               refine wpList_append_any _ rfl (.tmp 69) (.tmp 72) _ rfl wr.heap.size 5 i0 _ 1 1 Tryz.underlying66 hi0 hz0 hz1 hz2 rfl (by omega) v6 (1 + S.length) (bs [1] ++ bs S) rfl
                 (hown6.alloc _) (w6.heap.size + 1) (some ⟨w6.heap.size, 0, none⟩) 1 1 [.int .u8 5] rfl (Reads.new w6 _ _) (by intro u hu; simp at hu; rw [hu]; rfl) (by unfold maxLen; omega) (by omega) (by simp <;> omega) ?_
               intro v3 w3 hown3 hg3 hat3
               have hX : w3.ownsRow wr.heap.size 5 1 v3 (headB l ++ [5]).length (bs (headB l ++ [5])) := by rw [HX1.out.1, HX1.out.2]; exact hown3
               have hbX : Below wr.heap.size wr w3 := below_app hb6 hown6 hsz6 hg3)
            | (go_at_call 159; refine (HC.out _ hbX).mono ?_; intro e w4 hN4; obtain ⟨A9, c9, rfl, hc9, r9, hb4⟩ := hN4.opened)
            | (at_builtin
               refine wpList_append_any _ rfl (.tmp 105) (.tmp 107) _ rfl wr.heap.size 5 i0 _ 1 1 Tryz.underlying66 hi0 hz0 hz1 hz2 rfl (by omega) v3 (headB l ++ [5]).length (bs (headB l ++ [5])) rfl
                 (own_below hX hb4) w4.heap.size A9 F.length c9 (bs F) rfl r9 (bs_one _) (by unfold maxLen; omega) (by omega) (by have := hbX.size; have := hb4.size; omega) ?_
               intro v5 w5 hown5 hg5 hat5))
          go_ret
          refine ⟨v5, rfl, ?_, (hb.trans ((hbX.trans (hb4.mono hbX.size)).mono hsz)).grown hg5 (by have := hbX.size; have := hb4.size; omega) (fun q hq => by have := ((own_below hX hb4).lt q hq).1; omega)⟩
          rw [show lyB l 5 = headB l ++ [5] ++ F from by rw [HFF.out]; rfl, bs_append, List.length_append]
          exact own_base hown5 hsz
end Go.Proofs.YtpgdlmnhomnblaaGreatDoor
