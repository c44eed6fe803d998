import Derived.BigQuiet
import Derived.Test.YtpgdlmnhomnblaaGreatDoorJ5
import Derived.Test.YtpgdlmnhomnblaaGreatDoorJ10
import Derived.Test.YtpgdlmnhomnblaaGreatDoorJ6
import Derived.Test.YtpgdlmnhomnblaaGreatDoorJ11
namespace Go.Proofs.YtpgdlmnhomnblaaGreatDoor
open Go.RowKit
set_option linter.unusedVariables false
set_option linter.unusedSimpArgs false
set_option maxRecDepth 100000
def dnD (z : Int) (o : List Int) (k : Nat) : Bool := (o.take k).any fun y => decide (z ≤ y)
def nxD (z : Int) (o : List Int) (k : Nat) : List Int := if dnD z o k = true then insD z (o.take k) else o.take k
theorem insD_fore (z : Int) (a b : List Int) (h : ∀ x ∈ a, x < z) : insD z (a ++ b) = a ++ insD z b := by
  induction a with
  | nil => rfl
  | cons y a ih =>
    have hy := h y (by simp)
    rw [List.cons_append]
    simp only [insD]
    rw [if_pos hy, ih (fun x hx => h x (by simp [hx])), List.cons_append]
theorem insD_past (z : Int) (a b : List Int) (h : ∃ x ∈ a, z ≤ x) : insD z (a ++ b) = insD z a ++ b := by
  induction a with
  | nil => obtain ⟨x, hx, _⟩ := h; simp at hx
  | cons y a ih =>
    rw [List.cons_append]
    simp only [insD]
    by_cases h1 : y < z
    · rw [if_pos h1, if_pos h1, ih ?_, List.cons_append]
      obtain ⟨x, hx, hz⟩ := h
      rcases List.mem_cons.1 hx with rfl | hx
      · omega
      · exact ⟨x, hx, hz⟩
    · rw [if_neg h1, if_neg h1]
      by_cases h2 : y = z
      · rw [if_pos h2, if_pos h2, List.cons_append]
      · rw [if_neg h2, if_neg h2, List.cons_append, List.cons_append]
theorem dnD_succ {z : Int} {o : List Int} {k : Nat} {y : Int} (h : o[k]? = some y) : dnD z o (k + 1) = (dnD z o k || decide (z ≤ y)) := by
  unfold dnD; rw [take_snoc h, List.any_append]; simp
theorem dnD_ex {z : Int} {o : List Int} {k : Nat} (h : dnD z o k = true) : ∃ x ∈ o.take k, z ≤ x := by
  unfold dnD at h; rw [List.any_eq_true] at h
  obtain ⟨x, hx, h2⟩ := h
  exact ⟨x, hx, by simpa using h2⟩
theorem dnD_all {z : Int} {o : List Int} {k : Nat} (h : dnD z o k = false) : ∀ x ∈ o.take k, x < z := by
  intro x hx
  unfold dnD at h
  have := List.any_eq_false.1 h x hx
  simp at this; exact this
theorem nx_past {z : Int} {o : List Int} {k : Nat} {y : Int} (h : o[k]? = some y) (hd : dnD z o k = true) : dnD z o (k + 1) = true ∧ nxD z o (k + 1) = nxD z o k ++ [y] := by
  have h1 : dnD z o (k + 1) = true := by rw [dnD_succ h, hd]; rfl
  refine ⟨h1, ?_⟩
  unfold nxD
  rw [if_pos h1, if_pos hd, take_snoc h, insD_past z _ _ (dnD_ex hd)]
theorem nx_less {z : Int} {o : List Int} {k : Nat} {y : Int} (h : o[k]? = some y) (hd : dnD z o k = false) (hy : ¬ z ≤ y) : dnD z o (k + 1) = false ∧ nxD z o (k + 1) = nxD z o k ++ [y] := by
  have h1 : dnD z o (k + 1) = false := by rw [dnD_succ h, hd]; simpa using hy
  refine ⟨h1, ?_⟩
  unfold nxD
  rw [h1, hd, if_neg (by simp), if_neg (by simp), take_snoc h]
theorem nx_same {z : Int} {o : List Int} {k : Nat} {y : Int} (h : o[k]? = some y) (hd : dnD z o k = false) (hy : y = z) : dnD z o (k + 1) = true ∧ nxD z o (k + 1) = nxD z o k ++ [y] := by
  have h1 : dnD z o (k + 1) = true := by rw [dnD_succ h, hd]; simp; omega
  refine ⟨h1, ?_⟩
  unfold nxD
  rw [h1, hd, if_pos rfl, if_neg (by simp), take_snoc h, insD_fore z _ _ (dnD_all hd)]
  simp [insD, hy]
theorem nx_new {z : Int} {o : List Int} {k : Nat} {y : Int} (h : o[k]? = some y) (hd : dnD z o k = false) (hy : z < y) : dnD z o (k + 1) = true ∧ nxD z o (k + 1) = nxD z o k ++ [z] ++ [y] := by
  have h1 : dnD z o (k + 1) = true := by rw [dnD_succ h, hd]; simp; omega
  refine ⟨h1, ?_⟩
  unfold nxD
  rw [h1, hd, if_pos rfl, if_neg (by simp), take_snoc h, insD_fore z _ _ (dnD_all hd)]
  simp only [insD]
  rw [if_neg (by omega), if_neg (by omega), List.append_assoc]; rfl
theorem nx_end {z : Int} {o : List Int} (hd : dnD z o o.length = true) : nxD z o o.length = insD z o := by
  unfold nxD; rw [if_pos hd, List.take_length]
theorem nx_last {z : Int} {o : List Int} (hd : dnD z o o.length = false) : nxD z o o.length ++ [z] = insD z o := by
  have h := dnD_all hd
  rw [List.take_length] at h
  have := insD_fore z o [] h
  rw [List.append_nil] at this
  unfold nxD; rw [hd, if_neg (by simp), List.take_length, this]; rfl
theorem nxD_length (z : Int) (o : List Int) (k : Nat) : (nxD z o k).length ≤ k + 1 := by
  unfold nxD
  have h1 : (o.take k).length ≤ k := List.length_take_le _ _
  split
  · have := insD_length z (o.take k); omega
  · omega
theorem refWidthD_any (c : Nat) (w : World) (hc : c ≤ 1099511627776) :
    Calls Tryz.prog 197 #[.int .i64 (c : Int)] w fun e w' => e = .returned (.int .i64 (blen (c - 1) : Int)) ∧ w = w' := by
  have hle : blen (c - 1) ≤ 40 := (blen_le _ _).2 (by omega)
  go_enter Tryz.func197, Tryz.ntmps197
  go_wp2_with fail
  go_loop [3, 4] (fun s3 s4 => ∃ j p : Nat, j ≤ blen (c - 1) ∧ s3 = .int .i64 (j : Int) ∧ s4 = .int .i64 (p : Int) ∧ Hid (p = 2 ^ j) ∧ p ≤ 1099511627776) (fun s3 _ => 41 - (intOf s3).toNat)
  case atStart => exact ⟨0, 1, Nat.zero_le _, rfl, rfl, Lib.hid rfl, by omega⟩
  case round =>
    obtain ⟨j, p, hj, rfl, rfl, hp, hpl⟩ := hrel
    by_cases hlt : p < c
    · have h1 : ¬ blen (c - 1) ≤ j := fun h => by have := (blen_le _ _).1 h; rw [← hp.out] at this; omega
      have HP : Hid (2 * p = 2 ^ (j + 1)) := Lib.hid (by rw [hp.out, Nat.pow_succ, Nat.mul_comm])
      have h40 : j + 1 ≤ 40 := by omega
      have HL : 2 * p ≤ 1099511627776 := by
        rw [HP.out]
        exact Nat.le_trans (Nat.pow_le_pow_right (by omega) h40) (by omega)
      go_wp2_with fail
      go_round
      case rel => exact ⟨j + 1, 2 * p, by omega, by go_num, by go_num, HP, HL⟩
      case measure => simp [intOf]; omega
    · have h0 : 0 < p := by rw [hp.out]; exact Nat.two_pow_pos j
      have h1 : blen (c - 1) ≤ j := (blen_le _ _).2 (by rw [← hp.out]; omega)
      obtain rfl : j = blen (c - 1) := by omega
      go_wp2_with fail
      go_ret
      exact ⟨rfl, rfl⟩
theorem own_drewN {w : World} {base : Nat} {e : TypeId} {size n : Nat} {v : Value} {xs : List Value} (h : w.ownsRow base e size v n xs) (k : Nat) : (w.drewN k).ownsRow base e size v n xs := h
set_option maxHeartbeats 2000000 in
theorem refList_any (A : Option Addr) (n c : Nat) (l : List Int) (w : World) (hr : Reads w w.heap.size 1 A n (zs l)) (hn : n ≤ 65536) :
    Calls Tryz.prog 196 #[.slice A n c] w fun e w' => ∃ v, e = .returned v ∧ w'.ownsRow w.heap.size 2 1 v (lstD l).length (zs (lstD l)) ∧ Below w.heap.size w w' := by
  obtain ⟨i1, hi1, hy0, hy1, hy2⟩ := info_parts info_i64
  have e1 : l.length = n := by have := hr.1; rw [zs_length] at this; omega
  have E1 := Lib.hid e1
  clear e1
  go_enter Tryz.func196, Tryz.ntmps196
  go_wp2_with fail
  go_loopw [3, 4] (fun s3 s4 wr => ∃ k : Nat, k ≤ n ∧ s4 = .int .i64 (k : Int) ∧ wr.ownsRow w.heap.size 2 1 s3 (lstD (l.take k)).length (zs (lstD (l.take k))) ∧ Below w.heap.size w wr) (fun _ i _ => n - (intOf i).toNat)
  case atStart => exact ⟨0, Nat.zero_le _, rfl, own_nil _ _ _ _, Below.refl _ _⟩
  case round =>
    obtain ⟨k, hk, rfl, hown, hb⟩ := hrel
    by_cases hlt : k < n
    · obtain ⟨ad, u, rfl, hadb, hu, hc⟩ := hr.at_ hlt
      obtain ⟨z, hz, rfl⟩ := zs_at hu
      have hzc : ∀ W : World, Below w.heap.size w W → W.cell? (ad.add k) = some (.int .i64 z) := fun W h => (h.cell (p := ad.add k) (by rw [block_of_add]; exact hadb)).trans hc
      have HZC := Lib.hid hzc
      have hol := lstD_length (l.take k)
      have htk : (l.take k).length ≤ k := List.length_take_le _ _
      have HS : Hid (lstD (l.take (k + 1)) = insD z (lstD (l.take k))) := Lib.hid (by rw [take_snoc hz, lstD_snoc])
      obtain ⟨o, ho⟩ : ∃ o, o = lstD (l.take k) := ⟨_, rfl⟩
      obtain ⟨N, hN⟩ : ∃ N, N = o.length := ⟨_, rfl⟩
      rw [← ho] at hown hol HS
      rw [← hN] at hown hol
      have HN := Lib.hid hN
      obtain ⟨A3, c3, rfl, hc3, _, r3⟩ := own_slice hown
      obtain ⟨B, hB⟩ : ∃ B, B = wr.heap.size := ⟨_, rfl⟩
      have hwB : w.heap.size ≤ B := by rw [hB]; exact hb.size
      rw [← hB] at r3
      have hbB : Below B wr wr := Below.refl _ _
      have HBT := Lib.hid (fun (W : World) (h : Below B wr W) => (show Below w.heap.size w W from hb.trans (h.mono hwB)))
      have HBB := Lib.hid hB
      clear hu hz ho hN hzc hc hadb hown hB
      have hNk : N ≤ k := by omega
      clear hol htk
      go_wp2_with fail
      go_loopw [5, 6, 7] (fun s5 s6 s7 wx => ∃ j : Nat, j ≤ N ∧ s7 = .int .i64 (j : Int) ∧ s6 = .bool (dnD z o j) ∧ wx.ownsRow B 2 1 s5 (nxD z o j).length (zs (nxD z o j)) ∧ Below B wr wx ∧ B ≤ wx.heap.size) (fun _ _ j _ => N - (intOf j).toNat)
      case atStart => exact ⟨0, Nat.zero_le _, rfl, rfl, own_nil _ _ _ _, hbB, by rw [HBB.out]; exact Nat.le_refl _⟩
      case round =>
        obtain ⟨j, hj, rfl, rfl, hown2, hb2, hBs⟩ := hrel
        have hnl := nxD_length z o j
        by_cases hlt2 : j < N
        · obtain ⟨ad3, u3, rfl, hadb3, hu3, hc3'⟩ := r3.at_ hlt2
          obtain ⟨y, hy, rfl⟩ := zs_at hu3
          have HYC := Lib.hid (fun (W : World) (h : Below B _ W) => (h.cell (p := ad3.add j) (by rw [block_of_add]; exact hadb3)).trans hc3')
          have hcy := HYC.out _ hb2
          have hcz := HZC.out _ (HBT.out _ hb2)
          have HY := Lib.hid hy
          clear hu3 hy hadb3 hc3'
          cases hdn : dnD z o j with
          | true =>
            have HP := Lib.hid (nx_past HY.out hdn)
            clear hdn
            go_wp2_with fail
            go_quiet (fail)
            go_wp2_with (at_builtin
                         refine wpList_append_any _ rfl (.tmp 49) (.tmp 54) _ rfl B 2 i1 _ 1 8 Tryz.underlying142 hi1 hy0 hy1 hy2 rfl (by omega) u5 (nxD z o j).length (zs (nxD z o j)) rfl
                           ((own_drewN hown2 _).alloc _) (wr.heap.size + 1) (some ⟨wr.heap.size, 0, none⟩) 1 1 [.int .i64 y] rfl (Reads.new (wr.drewN _) _ _) (one_int _ _) (by unfold maxLen; omega) (by omega) (by simp; omega) ?_
                         intro v4 w4 hown4 hg4 hat4)
            go_round
            case rel =>
              refine ⟨j + 1, by omega, by go_num, by rw [HP.out.1], ?_, below_app ((Drawn.one _ _).below hb2) (own_drewN hown2 _) hBs hg4, by have := hg4.size; simp at this; omega⟩
              rw [HP.out.2, ← zs_snoc, List.length_append, List.length_singleton]
              exact hown4
            case measure => simp [intOf]; omega
          | false =>
            by_cases hzy : z ≤ y
            · by_cases hzy2 : z < y
              · have HP := Lib.hid (nx_new HY.out hdn hzy2)
                clear hdn
                go_wp2_with fail
                go_quiet (fail)
                go_wp2_with fail
                go_quiet (fail)
                go_wp2_with (first
                  | (at_builtin
                     refine wpList_append_any _ rfl (.tmp 42) (.tmp 47) _ rfl B 2 i1 _ 1 8 Tryz.underlying142 hi1 hy0 hy1 hy2 rfl (by omega) u5 (nxD z o j).length (zs (nxD z o j)) rfl
                       ((own_drewN hown2 _).alloc _) (wr.heap.size + 1) (some ⟨wr.heap.size, 0, none⟩) 1 1 [.int .i64 z] rfl (Reads.new (wr.drewN _) _ _) (one_int _ _) (by unfold maxLen; omega) (by omega) (by simp; omega) ?_
                     intro v4 w4 hown4 hg4 hat4
                     have hb4 := below_app ((Drawn.one _ _).below hb2) (own_drewN hown2 _) hBs hg4
                     have hcy4 := HYC.out _ hb4
                     have hBs4 : B ≤ w4.heap.size := by have := hg4.size; simp at this; omega)
                  | (at_builtin
                     refine wpList_append_any _ rfl (.tmp 49) (.tmp 54) _ rfl B 2 i1 _ 1 8 Tryz.underlying142 hi1 hy0 hy1 hy2 rfl (by omega) v4 ((nxD z o j).length + 1) (zs (nxD z o j) ++ [.int .i64 z]) rfl
                       (hown4.alloc _) (w4.heap.size + 1) (some ⟨w4.heap.size, 0, none⟩) 1 1 [.int .i64 y] rfl (Reads.new w4 _ _) (one_int _ _) (by unfold maxLen; omega) (by omega) (by simp; omega) ?_
                     intro v5 w5 hown5 hg5 hat5))
                go_round
                case rel =>
                  refine ⟨j + 1, by omega, by go_num, by rw [HP.out.1], ?_, below_app hb4 hown4 hBs4 hg5, by have := hg5.size; simp at this; omega⟩
                  rw [HP.out.2, ← zs_snoc, ← zs_snoc, List.length_append, List.length_append, List.length_singleton, List.length_singleton]
                  exact hown5
                case measure => simp [intOf]; omega
              · obtain rfl : y = z := by omega
                have HP := Lib.hid (nx_same HY.out hdn rfl)
                clear hdn hzy
                have hzz : y ≤ y := Int.le_refl _
                go_wp2_with fail
                go_quiet (fail)
                go_wp2_with fail
                go_quiet (fail)
                go_wp2_with (at_builtin
                             refine wpList_append_any _ rfl (.tmp 49) (.tmp 54) _ rfl B 2 i1 _ 1 8 Tryz.underlying142 hi1 hy0 hy1 hy2 rfl (by omega) u5 (nxD y o j).length (zs (nxD y o j)) rfl
                               ((own_drewN hown2 _).alloc _) (wr.heap.size + 1) (some ⟨wr.heap.size, 0, none⟩) 1 1 [.int .i64 y] rfl (Reads.new (wr.drewN _) _ _) (one_int _ _) (by unfold maxLen; omega) (by omega) (by simp; omega) ?_
                             intro v4 w4 hown4 hg4 hat4)
                go_round
                case rel =>
                  refine ⟨j + 1, by omega, by go_num, by rw [HP.out.1], ?_, below_app ((Drawn.one _ _).below hb2) (own_drewN hown2 _) hBs hg4, by have := hg4.size; simp at this; omega⟩
                  rw [HP.out.2, ← zs_snoc, List.length_append, List.length_singleton]
                  exact hown4
                case measure => simp [intOf]; omega
            · have HP := Lib.hid (nx_less HY.out hdn hzy)
              clear hdn
              go_wp2_with fail
              go_quiet (fail)
              go_wp2_with (at_builtin
                           refine wpList_append_any _ rfl (.tmp 49) (.tmp 54) _ rfl B 2 i1 _ 1 8 Tryz.underlying142 hi1 hy0 hy1 hy2 rfl (by omega) u5 (nxD z o j).length (zs (nxD z o j)) rfl
                             ((own_drewN hown2 _).alloc _) (wr.heap.size + 1) (some ⟨wr.heap.size, 0, none⟩) 1 1 [.int .i64 y] rfl (Reads.new (wr.drewN _) _ _) (one_int _ _) (by unfold maxLen; omega) (by omega) (by simp; omega) ?_
                           intro v4 w4 hown4 hg4 hat4)
              go_round
              case rel =>
                refine ⟨j + 1, by omega, by go_num, by rw [HP.out.1], ?_, below_app ((Drawn.one _ _).below hb2) (own_drewN hown2 _) hBs hg4, by have := hg4.size; simp at this; omega⟩
                rw [HP.out.2, ← zs_snoc, List.length_append, List.length_singleton]
                exact hown4
              case measure => simp [intOf]; omega
        · obtain rfl : j = N := by omega
          have hcz := HZC.out _ (HBT.out _ hb2)
          have hbo := HBT.out _ hb2
          cases hdn : dnD z o j with
          | true =>
            have HE : Hid (nxD z o j = insD z o) := Lib.hid (by rw [HN.out] at hdn ⊢; exact nx_end hdn)
            clear hdn
            go_wp2_with fail
            go_round
            case rel =>
              refine ⟨k + 1, by omega, by go_num, ?_, hbo⟩
              rw [HS.out, ← HE.out]
              exact own_base hown2 hwB
            case measure => simp [intOf]; omega
          | false =>
            have HE : Hid (nxD z o j ++ [z] = insD z o) := Lib.hid (by rw [HN.out] at hdn ⊢; exact nx_last hdn)
            clear hdn
            go_wp2_with (at_builtin
                         refine wpList_append_any _ rfl (.tmp 58) (.tmp 63) _ rfl B 2 i1 _ 1 8 Tryz.underlying142 hi1 hy0 hy1 hy2 rfl (by omega) u5 (nxD z o j).length (zs (nxD z o j)) rfl
                           (hown2.alloc _) (wr.heap.size + 1) (some ⟨wr.heap.size, 0, none⟩) 1 1 [.int .i64 z] rfl (Reads.new wr _ _) (one_int _ _) (by unfold maxLen; omega) (by omega) (by simp; omega) ?_
                         intro v4 w4 hown4 hg4 hat4)
            go_round
            case rel =>
              refine ⟨k + 1, by omega, by go_num, ?_, HBT.out _ (below_app hb2 hown2 hBs hg4)⟩
              rw [HS.out, ← HE.out, ← zs_snoc, List.length_append, List.length_singleton]
              exact own_base hown4 hwB
            case measure => simp [intOf]; omega
    · obtain rfl : k = n := by omega
      rw [List.take_of_length_le (by rw [E1.out]; exact Nat.le_refl _)] at hown
      go_wp2_with fail
      go_ret
      exact ⟨_, rfl, hown, hb⟩
end Go.Proofs.YtpgdlmnhomnblaaGreatDoor
