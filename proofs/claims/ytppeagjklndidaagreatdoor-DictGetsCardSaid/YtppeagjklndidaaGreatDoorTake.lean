/- Contracts of the Reader's Take and Fix, with every error that they tell. -/
import Derived.Deep.RegionWith
import Derived.StillTailTactics
import Derived.Test.YtppeagjklndidaaGreatDoorRdE
namespace Go.Proofs.YtppeagjklndidaaGreatDoor
open Go.RowKit
set_option linter.unusedVariables false
set_option linter.unusedSimpArgs false
set_option maxRecDepth 100000

theorem take_nil (n : Int) (w : World) : Calls Tryz.prog 62 #[.pointer none, .int .i64 n] w fun e w' => e = .returned (.slice none 0 0) ∧ w = w' := by
  go_enter Tryz.func62, Tryz.ntmps62
  go_wp2_with (go_at_call 65; refine (stopped_nil _).mono ?_; rintro e w1 ⟨rfl, rfl⟩)
  go_ret
  exact ⟨rfl, rfl⟩
theorem fix_nil (n : Int) (w : World) : Calls Tryz.prog 60 #[.pointer none, .int .i64 n] w fun e w' => e = .returned (.int .u64 0) ∧ w = w' := by
  go_enter Tryz.func60, Tryz.ntmps60
  go_wp2_with (go_at_call 65; refine (stopped_nil _).mono ?_; rintro e w1 ⟨rfl, rfl⟩)
  go_ret
  exact ⟨rfl, rfl⟩

theorem take_ok {w : World} {g : Nat} {A : Option Addr} {n c at_ : Nat} {l : List Nat} (size : Nat) (hR : Rd w g A n c at_ .nilIface l) (hroom : at_ + size ≤ n) :
    Calls Tryz.prog 62 #[.pointer (some ⟨g, 0, none⟩), .int .i64 (size : Int)] w
      fun e w' => Bytes ((l.drop at_).take size) e w' ∧ RdTo w g l (at_ + size) none w' := by
  have hc0 := hR.blk.cell 0
  have hc := hR.blk.cell 1
  simp only [List.getElem?_toArray, List.getElem?_cons_succ, List.getElem?_cons_zero] at hc hc0
  have hz := hR.size
  have hp := hR.place
  have hcap := hR.cap
  have hf := hR.blk.frozen 1
  have hlt := hR.blk.lt
  have hcut : Reads w g 1 (if c = at_ then A else Option.map (fun x => x.add at_) A) size (bs ((l.drop at_).take size)) := by
    have := (hR.reads.cut hp hcap).fore (k := size) (by omega)
    simpa [bs_drop, bs_take] using this
  have hbd : (at_ : Int) + (size : Int) ≤ (c : Int) := by omega
  have f2 : IntKind.i64.wrap ((at_ : Int) + (size : Int)) = (at_ : Int) + (size : Int) := IntWalk.i64_in _ (by omega)
  have f4 : ((at_ : Int) + (size : Int)).toNat = at_ + size := by omega
  have f5 : 0 ≤ (at_ : Int) + (size : Int) := by omega
  by_cases hca : c = at_
  case' pos => subst hca; simp only [if_true] at hcut
  case' neg => simp only [if_neg hca] at hcut
  all_goals
    go_enter Tryz.func62, Tryz.ntmps62
    go_wp2_with (first
      | (go_at_call 65; refine (stopped_ok hR).mono ?_; rintro e w1 ⟨rfl, rfl⟩)
      | (go_at_call 63; refine (left_any hR).mono ?_; rintro e w1 ⟨rfl, q, rfl⟩))
    refine wp_region_still_tail 15 (by kernel_rfl) (by kernel_rfl) ?_
    simp only [List.take_succ_cons, List.take_zero, List.drop_succ_cons, List.drop_zero]
    change wpStill _ _ (w.drewN q).drew _ _ _
    repeat still_step
    refine wpStill_nil ?_
    change wpList _ _ _ _ _ (w.drewN q).drew
    go_wp2_with (go_at_call 59; refine (clone_any _ size _ _ _ ((hcut.more (Nat.le_of_lt hlt)).drewN (q + 1)) (bs_one _) (by omega)).mono ?_; rintro e w2 ⟨v2, rfl, hown2, hb2⟩
                 obtain ⟨A2, c2, rfl, _, _, hr2⟩ := own_slice hown2
                 have hbw : Below w.heap.size w w2 := ((Drawn.one w (q + 1)).below (Below.refl w.heap.size w)).trans hb2
                 have hbl2 := hR.blk.below hbw hlt
                 have hcc := hbl2.cell 1
                 have hcf := hbl2.frozen 1
                 simp only [List.getElem?_toArray, List.getElem?_cons_succ, List.getElem?_cons_zero] at hcc)
    go_ret
    obtain ⟨hto1, hto2⟩ := RdS.goes hR (x := none) rfl size hroom hbw
    exact ⟨⟨A2, size, c2, rfl, own_far hown2 (show g < (w.drewN (q + 1)).heap.size from hlt) _⟩, hto1, hto2⟩

theorem take_is {w : World} {g : Nat} {l : List Nat} {at_ : Nat} {x : Option (Int × Nat)} (n : Int) (h : RdS w g l at_ x) :
    Calls Tryz.prog 62 #[.pointer (some ⟨g, 0, none⟩), .int .i64 n] w
      fun e w' => Bytes (takeS l at_ x n).1 e w' ∧ RdTo w g l (takeS l at_ x n).2.1 (takeS l at_ x n).2.2 w' := by
  cases x with
  | some x =>
    go_enter Tryz.func62, Tryz.ntmps62
    go_wp2_with (go_at_call 65; refine (stopped_err h).mono ?_; rintro e w1 ⟨rfl, rfl⟩)
    go_ret
    exact ⟨⟨none, 0, 0, rfl, Reads.none_⟩, RdTo.same h (Drawn.refl w)⟩
  | none =>
    have hp := h.place
    by_cases h0 : n < 0
    · have hS : takeS l at_ none n = ([], at_, some (1, at_)) := by unfold takeS; simp [h0]
      rw [hS]
      clear hS
      go_enter Tryz.func62, Tryz.ntmps62
      go_wp2_with (first
        | (go_at_call 65; refine (stopped_is h).mono ?_; rintro e w1 ⟨rfl, rfl⟩)
        | (go_at_call 67; refine (stop_is 1 h).mono ?_; rintro e w2 ⟨rfl, hto⟩))
      go_ret
      exact ⟨⟨none, 0, 0, rfl, Reads.none_⟩, hto⟩
    · by_cases h1 : (l.length : Int) - at_ < n
      · have hS : takeS l at_ none n = ([], at_, some (2, at_)) := by unfold takeS; simp [h0, h1]
        rw [hS]
        clear hS
        go_enter Tryz.func62, Tryz.ntmps62
        go_wp2_with (first
          | (go_at_call 65; refine (stopped_is h).mono ?_; rintro e w1 ⟨rfl, rfl⟩)
          | (go_at_call 63; refine (left_is h).mono ?_; rintro e w1 ⟨rfl, hd⟩; have h2 := h.next (hd.below (Below.refl _ _)))
          | (go_at_call 67; refine (stop_is 2 h2).mono ?_; rintro e w2 ⟨rfl, hto⟩))
        go_ret
        exact ⟨⟨none, 0, 0, rfl, Reads.none_⟩, hto.1, only_trans (only_below (World.grownBy.refl w _) (hd.below (Below.refl _ _))) hto.2⟩
      · obtain ⟨k, rfl⟩ := Int.eq_ofNat_of_zero_le (show 0 ≤ n by omega)
        have hS : takeS l at_ none (k : Int) = ((l.drop at_).take k, at_ + k, none) := by unfold takeS; simp [h1]
        rw [hS]
        obtain ⟨A, m, c, err, hR, rfl⟩ := h
        exact take_ok k hR (by have := hR.length; omega)
end Go.Proofs.YtppeagjklndidaaGreatDoor
