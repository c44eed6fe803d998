/- Texts joined: DcWhole RdFail. -/
import Derived.Test.YtppeagjklndidaaGreatDoorJ22
import Derived.Test.YtppeagjklndidaaGreatDoorJ18
import Derived.Test.YtppeagjklndidaaGreatDoorDcRead2
import Derived.Test.YtppeagjklndidaaGreatDoorJ20
import Derived.Test.YtppeagjklndidaaGreatDoorRdE
/- Contracts of the library's slices.Index and slices.Contains over truths, and of package dict's whole: what is wrong with places. -/
namespace Go.Proofs.YtppeagjklndidaaGreatDoor
open Go.RowKit
set_option linter.unusedVariables false
set_option linter.unusedSimpArgs false
set_option maxRecDepth 100000

theorem indexB_any (A : Option Addr) (n c : Nat) (f : Nat → Bool) (w : World) (hr : Reads w w.heap.size 1 A n (bl f n)) (hn : n ≤ 140737488355328) :
    Calls Tryz.prog 102 #[.slice A n c, .bool false] w fun e w' => e = .returned (.int .i64 (missI f n)) ∧ w = w' := by
  go_enter Tryz.func102, Tryz.ntmps102
  go_wp2_with fail
  go_loop [8] (fun s8 => ∃ k : Nat, k ≤ n ∧ s8 = .int .i64 (k : Int) ∧ ∀ j, j < k → f j = true) (fun i => n - (intOf i).toNat)
  case atStart => exact ⟨0, Nat.zero_le _, rfl, fun j h => absurd h (by omega)⟩
  case round =>
    obtain ⟨k, hk, rfl, hall⟩ := hrel
    obtain ⟨h1, h2⟩ := find_step hk hall
    by_cases hlt : k < n
    · obtain ⟨ad, rfl, _, hc⟩ := bl_cell hr hlt
      cases hf : f k with
      | true =>
        rw [hf] at hc
        have HALL : Hid (∀ j, j < k + 1 → f j = true) := Lib.hid fun j hj => by
          rcases Nat.lt_or_ge j k with h | h
          · exact hall j h
          · obtain rfl : j = k := by omega
            exact hf
        clear h1 h2 hall hf
        go_wp2_with fail
        go_round
        case rel => exact ⟨k + 1, by omega, by go_num, HALL.out⟩
        case measure => simp [intOf]; omega
      | false =>
        rw [hf] at hc
        have HM := Lib.hid (h1 hlt hf)
        clear h1 h2 hall hf
        go_wp2_with fail
        go_ret
        exact ⟨by rw [HM.out]; rfl, rfl⟩
    · have HM := Lib.hid (h2 (by omega))
      clear h1 h2 hall
      go_wp2_with fail
      go_ret
      exact ⟨by rw [HM.out]; rfl, rfl⟩
theorem containsB_any (A : Option Addr) (n c : Nat) (f : Nat → Bool) (w : World) (hr : Reads w w.heap.size 1 A n (bl f n)) (hn : n ≤ 140737488355328) :
    Calls Tryz.prog 86 #[.slice A n c, .bool false] w fun e w' => e = .returned (.bool (!(List.range n).all f)) ∧ w = w' := by
  have hm := miss_all (f := f) (n := n)
  have HC := Lib.hid (indexB_any A n c f w hr hn)
  obtain ⟨m, hme⟩ : ∃ m, m = missI f n := ⟨_, rfl⟩
  rw [← hme] at hm HC
  have HM : Hid (decide (0 ≤ m) = !(List.range n).all f) := Lib.hid (by
    cases h : (List.range n).all f with
    | true =>
      have : ¬ 0 ≤ m := fun h1 => by have := hm.1 h1; rw [h] at this; cases this
      simp [this]
    | false => simp [hm.2 h])
  clear hm hme
  go_enter Tryz.func86, Tryz.ntmps86
  go_wp2_with fail
  refine HC.out.mono ?_
  rintro e w' ⟨rfl, rfl⟩
  go_wp2_with fail
  go_ret
  exact ⟨by rw [← HM.out]; rfl, rfl⟩
theorem run_make_bool (n : Nat) (hn : n ≤ 140737488355328) (w : World) :
    (Instr.makeSlice 124 (.int .i64 (n : Int)) (.int .i64 (n : Int))).run Tryz.prog w = .ok (.slice (some ⟨w.heap.size, 0, none⟩) n n) (w.alloc (.cells (madeCells #[.bool false] n) 4)) := by
  obtain ⟨i, hi, hz0, hz1, hz2⟩ := info_parts info_bool
  have hr := run_make (P := Tryz.prog) w 124 4 i _ Tryz.underlying124 hi hz0 .i64 .i64 n n (by omega) (by omega) (by rw [hz2]; omega) (by omega)
  rw [hz1] at hr
  simpa [Value.cells] using hr
theorem made_bl (n : Nat) : madeCells #[Value.bool false] n = (bl (fun _ => false) n).toArray := by
  apply Array.ext'
  rw [toList_madeCells_one]
  apply List.ext_getElem?
  intro j
  by_cases hj : j < n
  · rw [bl_at _ hj, List.getElem?_replicate, if_pos hj]
  · rw [List.getElem?_eq_none (by simp; omega), List.getElem?_eq_none (by rw [bl_length]; omega)]
theorem whE_five {L : List Nat} {c k a : Nat} (h : L[k]? = some a) (hc : c ≤ a) : whE L c = 5 := by
  unfold whE
  rw [if_pos]
  rw [List.any_eq_true]
  exact ⟨a, List.mem_of_getElem? h, by simpa using hc⟩
theorem whE_else {L : List Nat} {c : Nat} (h : ∀ a ∈ L, a < c) : whE L c = if (List.range c).all (fun i => L.contains i) = true then 0 else 4 := by
  unfold whE
  rw [if_neg]
  intro h1
  rw [List.any_eq_true] at h1
  obtain ⟨a, ha, hc⟩ := h1
  have := h a ha
  simp at hc; omega
set_option maxHeartbeats 1000000 in
theorem whole_any (A : Option Addr) (n c : Nat) (L : List Nat) (cnt : Nat) (w : World) (hr : Reads w w.heap.size 1 A n (us L)) (hn : n ≤ 65536) (hc : cnt ≤ 65536) :
    Calls Tryz.prog 64 #[.slice A n c, .int .i64 (cnt : Int)] w fun e w' => e = .returned (.int .i64 (whE L cnt : Int)) ∧ Below w.heap.size w w' := by
  have e1 : L.length = n := by have := hr.1; rw [us_length] at this; omega
  have E1 := Lib.hid e1
  have hmk := fun W => run_make_bool cnt (by omega) W
  rw [made_bl] at hmk
  have hF0 := Blk.new w 4 (bl (fun _ => false) cnt).toArray
  have hb0 : Below w.heap.size w (w.alloc (.cells (bl (fun _ => false) cnt).toArray 4)) := (Below.refl _ _).alloc (Nat.le_refl _) _
  have hw1 : IntKind.u64.wrap (cnt : Int) = (cnt : Int) := IntWalk.u64_in _ (by omega)
  clear e1
  go_enter Tryz.func64, Tryz.ntmps64
  go_wp2_with fail
  clear hmk
  go_loopw [12] (fun s12 wr => ∃ k : Nat, k ≤ n ∧ s12 = .int .i64 (k : Int) ∧ Blk wr w.heap.size 4 (bl (fun j => (L.take k).contains j) cnt).toArray ∧ Below w.heap.size w wr ∧ Hid (∀ a ∈ L.take k, a < cnt)) (fun i _ => n - (intOf i).toNat)
  case atStart => exact ⟨0, Nat.zero_le _, rfl, hF0, hb0, Lib.hid (by simp)⟩
  case round =>
    clear hF0 hb0
    obtain ⟨k, hk, rfl, hF, hb, hall⟩ := hrel
    by_cases hlt : k < n
    · obtain ⟨ad, u, rfl, _, hu, hc0⟩ := (hr.below hb).at_ hlt
      obtain ⟨a, ha, rfl⟩ := us_at hu
      by_cases hca : cnt ≤ a
      · have H5 := Lib.hid (whE_five ha hca)
        clear hu ha
        go_wp2_with fail
        go_ret
        exact ⟨by rw [H5.out]; rfl, hb⟩
      · have hac : a < cnt := by omega
        have hcell := hF.cell a
        rw [List.getElem?_toArray, bl_at _ hac] at hcell
        have hf := hF.frozen a
        have HA := Lib.hid ha
        have HALL : Hid (∀ x ∈ L.take (k + 1), x < cnt) := Lib.hid fun x hx => by
          rw [take_snoc ha] at hx
          rcases List.mem_append.1 hx with h | h
          · exact hall.out x h
          · rw [List.mem_singleton] at h; omega
        clear hu ha
        generalize hq : (List.take k L).contains a = q at hcell
        clear hq
        go_wp2_with fail
        go_round
        case rel =>
          refine ⟨k + 1, by omega, by go_num, ?_, hb.setCell (Nat.le_refl _) _, HALL⟩
          have h1 := hF.set_ a (.bool true)
          rw [List.setIfInBounds_toArray, bl_set _ hac] at h1
          have e : (fun j => (L.take (k + 1)).contains j) = fun j => decide (j = a) || (L.take k).contains j := by
            funext j
            rw [take_snoc HA.out]
            simp [Bool.or_comm]
          rw [e]
          exact h1
        case measure => simp [intOf]; omega
    · obtain rfl : k = n := by omega
      rw [List.take_of_length_le (by rw [E1.out]; exact Nat.le_refl _)] at hF hall
      have hR : Reads wr wr.heap.size 1 (some ⟨w.heap.size, 0, none⟩) cnt (bl (fun j => L.contains j) cnt) := reads_blk hF _ cnt _ hF.lt (bl_length _ _) (by rw [List.take_of_length_le (by simp [bl_length])])
      have HW := Lib.hid (whE_else hall.out)
      have HC := Lib.hid (containsB_any (some ⟨w.heap.size, 0, none⟩) cnt cnt (fun j => L.contains j) wr hR (by omega))
      generalize hq : (List.range cnt).all (fun j => L.contains j) = q at HW HC
      clear hF hall hR hq
      go_wp2_with fail
      refine HC.out.mono ?_
      rintro e w' ⟨rfl, rfl⟩
      cases q with
      | true =>
        go_wp2_with fail
        go_ret
        exact ⟨by rw [HW.out]; rfl, hb⟩
      | false =>
        go_wp2_with fail
        go_ret
        exact ⟨by rw [HW.out]; rfl, hb⟩
end Go.Proofs.YtppeagjklndidaaGreatDoor

/- Contract of the Reader's Fail. -/
namespace Go.Proofs.YtppeagjklndidaaGreatDoor
open Go.RowKit
set_option linter.unusedVariables false
set_option linter.unusedSimpArgs false
set_option maxRecDepth 100000

theorem fail_nil (k : Int) (w : World) : Calls Tryz.prog 36 #[.pointer none, .int .i64 k] w fun e w' => e = .returned (.tuple #[]) ∧ w = w' := by
  go_enter Tryz.func36, Tryz.ntmps36
  go_wp2_with (go_at_call 65; refine (stopped_nil _).mono ?_; rintro e w1 ⟨rfl, rfl⟩)
  go_end0
  exact ⟨rfl, rfl⟩
theorem fail_is {w : World} {g : Nat} {l : List Nat} {at_ : Nat} {x : Option (Int × Nat)} (k : Int) (h : RdS w g l at_ x) :
    Calls Tryz.prog 36 #[.pointer (some ⟨g, 0, none⟩), .int .i64 k] w fun e w' => e = .returned (.tuple #[]) ∧ RdTo w g l at_ (failS at_ x k) w' := by
  cases x with
  | some x =>
    go_enter Tryz.func36, Tryz.ntmps36
    go_wp2_with (go_at_call 65; refine (stopped_err h).mono ?_; rintro e w1 ⟨rfl, rfl⟩)
    go_end0
    exact ⟨rfl, RdTo.same h (Drawn.refl w)⟩
  | none =>
    by_cases hk : k = 0
    · subst hk
      go_enter Tryz.func36, Tryz.ntmps36
      go_wp2_with (go_at_call 65; refine (stopped_is h).mono ?_; rintro e w1 ⟨rfl, rfl⟩)
      go_end0
      exact ⟨rfl, RdTo.same h (Drawn.refl w)⟩
    · have hk1 : (k == 0) = false := by simp [hk]
      have hk2 : (k != 0) = true := by simp [hk]
      have hF : failS at_ none k = some (k, at_) := by unfold failS; simp [hk]
      have HF := Lib.hid hF
      clear hF
      go_enter Tryz.func36, Tryz.ntmps36
      go_wp2_with (first
        | (go_at_call 65; refine (stopped_is h).mono ?_; rintro e w1 ⟨rfl, rfl⟩)
        | (go_at_call 67; refine (stop_is k h).mono ?_; rintro e w2 ⟨rfl, hto⟩))
      go_end0
      rw [HF.out]
      exact ⟨rfl, hto⟩
end Go.Proofs.YtppeagjklndidaaGreatDoor
