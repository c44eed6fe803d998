/- The document's sums. -/
import Derived.Deep.RegionLaw
import Derived.Test.YteadmjgkmjeanaaDoorJ12
namespace Go.Proofs.YteadmjgkmjeanaaDoor
open Go.RowKit
set_option linter.unusedVariables false
set_option linter.unusedSimpArgs false
set_option maxRecDepth 100000

theorem zs_some' {l : List Int} {k : Nat} {z : Int} (h : l[k]? = some z) : (zs l)[k]? = some (.int .i64 z) := by unfold zs; rw [List.getElem?_map, h]; rfl
theorem sms_take (l : List Int) (k : Nat) (z : Int) (h : l[k]? = some z) : (sms 0 l).take (k + 1) = (sms 0 l).take k ++ [wrap64 (smA 0 l k + z)] := by
  rw [List.take_add_one, sms_at l 0 k z h, smA_succ h]; rfl
set_option maxHeartbeats 2000000 in
theorem refSums_any (A : Option Addr) (n c : Nat) (l : List Int) (w : World) (hr : Reads w w.heap.size 1 A n (zs l)) (hl : ∀ z ∈ l, In64 z) (hnc : n ≤ c) (hn : n ≤ 65537) :
    Calls Tryd.prog 23 #[.slice A n c] w fun e w' => ∃ v, e = .returned v ∧ w'.ownsRow w.heap.size 2 1 v n (zs (sms 0 l)) ∧ Below w.heap.size w w' := by
  obtain ⟨i1, hi1, hy0, hy1, hy2⟩ := info_parts info_i64
  have e1 : l.length = n := by have := hr.1; rw [zs_length] at this; omega
  have E1 := Lib.hid e1; have HL := Lib.hid hl
  clear e1 hl
  go_enter Tryd.func23, Tryd.ntmps23
  go_wp2_with fail
  go_loopw [3, 4] (fun out i wr => ∃ k : Nat, k ≤ n ∧ i = .int .i64 (k : Int) ∧ wr.ownsRow w.heap.size 2 1 out k (zs ((sms 0 l).take k)) ∧ Below w.heap.size w wr) (fun _ i _ => n - (intOf i).toNat)
  case atStart => exact ⟨0, by omega, rfl, own_nil _ _ _ _, Below.refl _ _⟩
  case round =>
    obtain ⟨k, hk, rfl, hown, hb⟩ := hrel
    have hrb := hr.below hb
    by_cases hlt : k < n
    · obtain ⟨ad, u, rfl, _, hu, hc⟩ := hrb.at_ hlt
      obtain ⟨z, hz, rfl⟩ := zs_at hu
      have HS := Lib.hid (sms_take l k z hz)
      have HIN := Lib.hid (HL.out z (List.mem_of_getElem? hz))
      have hsz := hb.size
      rcases Nat.eq_zero_or_pos k with h0 | h0
      · subst h0
        have hc0 : wr.cell? ad = some (.int .i64 z) := by simpa [Addr.add] using hc
        clear hu hz hc
        go_wp2_with (at_builtin
                     refine wpList_append_any _ rfl (.tmp 13) (.tmp 17) _ rfl w.heap.size 2 i1 _ 1 8 Tryd.underlying24 hi1 hy0 hy1 hy2 rfl (by omega) u3 0 (zs ((sms 0 l).take 0)) rfl
                       (hown.alloc _) (wr.heap.size + 1) (some ⟨wr.heap.size, 0, none⟩) 1 1 [.int .i64 z] rfl (Reads.new wr _ _) (one_int _ _) (by unfold maxLen; omega) (by omega) (by simp; omega) ?_
                     intro v4 w4 hown4 hg4 hat4)
        go_round
        case rel =>
          refine ⟨1, by omega, by go_num, ?_, below_app hb hown hsz hg4⟩
          rw [show (1 : Nat) = 0 + 1 from rfl, HS.out, ← zs_snoc, show smA 0 l 0 + z = z by simp [smA], w64_id HIN.out]
          exact hown4
        case measure => simp [intOf]; omega
      · obtain ⟨j, hj⟩ : ∃ j, k = j + 1 := ⟨k - 1, by omega⟩
        have hkl : k ≤ (sms 0 l).length := by rw [sms_length, E1.out]; omega
        obtain ⟨y, hy⟩ : ∃ y, smA 0 l k = y := ⟨_, rfl⟩
        have hat : (zs ((sms 0 l).take k))[j]? = some (.int .i64 y) := by
          obtain ⟨x, hx⟩ : ∃ x, l[j]? = some x := ⟨_, List.getElem?_eq_getElem (by rw [E1.out]; omega)⟩
          rw [zs_some']
          rw [List.getElem?_take, if_pos (by omega), sms_at l 0 j x hx, ← hj, hy]
        obtain ⟨g, cap, rfl, _, _⟩ := hown.form h0
        have hp := hown.cellAt j (by omega)
        rw [hat] at hp
        rw [hy] at HS
        clear hu hz hat hy hkl
        have q0 : ((k : Int) == 0) = false := by simp; omega
        have f1 : (k : Int) - 1 = (j : Int) := by omega
        have f2 : IntKind.i64.wrap (j : Int) = (j : Int) := IntWalk.i64_in _ (by omega)
        have f3 : j < k := by omega
        have HJ := Lib.hid hj
        clear hj
        go_wp2_with fail
        go_region_law (first
          | (refine step_append_any _ rfl (.tmp 19) (.tmp 30) _ rfl w.heap.size 2 i1 _ 1 8 Tryd.underlying24 hi1 hy0 hy1 hy2 rfl (by omega) (.slice (some ⟨g, 0, none⟩) k cap) k (zs ((sms 0 l).take k)) (by simp [Act.eval, Act.put])
              ((show wr.drew.ownsRow _ _ _ _ _ _ from hown).alloc _) (wr.heap.size + 1) (some ⟨wr.heap.size, 0, none⟩) 1 1 [.int .i64 (IntKind.i64.wrap (y + z))] (by simp [Act.eval, Act.put]) (by exact (Reads.new wr (.int .i64 (IntKind.i64.wrap (y + z))) 2).drew) (one_int _ _) (by unfold maxLen; omega) (by omega) (by simp; omega) ?_
             intro v4 w4 hown4 hg4 hat4))
        all_goals
          go_wp2_with fail
          go_round
          case rel =>
            refine ⟨k + 1, by omega, by go_num, ?_, below_app hb hown hsz (show (wr.alloc _).grownBy w4 _ from ⟨hg4.os, hg4.tape, hg4.output, hg4.size, hg4.block⟩)⟩
            rw [HS.out, ← zs_snoc, ← IntWalk.i64_left]
            exact hown4
          case measure => simp [intOf]; omega
    · go_wp2_with fail
      go_ret
      obtain rfl : k = n := by omega
      rw [List.take_of_length_le (by rw [sms_length, E1.out]; omega)] at hown
      exact ⟨_, rfl, hown, hb⟩
end Go.Proofs.YteadmjgkmjeanaaDoor
