/- Texts joined: Reader NFix RdBytes. -/
import Derived.WalkSpells
import Derived.Test.YtppeagjklndidaaGreatDoorFixed
import Derived.Test.YtppeagjklndidaaGreatDoorJ3
import Derived.Test.YtppeagjklndidaaGreatDoorRdE
import Derived.Test.YtppeagjklndidaaGreatDoorTake
/- Contract of package num's Reader's Fix, where it goes well. -/
namespace Go.Proofs.YtppeagjklndidaaGreatDoor
open Go.RowKit
set_option linter.unusedVariables false
set_option linter.unusedSimpArgs false
set_option maxRecDepth 100000

theorem fix_ok {w : World} {g : Nat} {A : Option Addr} {n c at_ : Nat} {l : List Nat} (size : Nat) (hR : Rd w g A n c at_ .nilIface l) (hs : size ≤ 8) (hroom : at_ + size ≤ n) :
    Calls Tryz.prog 60 #[.pointer (some ⟨g, 0, none⟩), .int .i64 (size : Int)] w
      fun e w' => e = .returned (.int .u64 ((unfx ((l.drop at_).take size) : Nat) : Int)) ∧ Rd w' g A n c (at_ + size) .nilIface l ∧ w.grownBy w' (some g) := by
  have hc0 := hR.blk.cell 0
  have hc := hR.blk.cell 1
  simp only [List.getElem?_toArray, List.getElem?_cons_succ, List.getElem?_cons_zero] at hc hc0
  have hz := hR.size
  have hp := hR.place
  have hcap := hR.cap
  have hf := hR.blk.frozen 1
  have hcut : Reads w g 1 (if c = at_ then A else Option.map (fun x => x.add at_) A) size (bs ((l.drop at_).take size)) := by
    have := (hR.reads.cut hp hcap).fore (k := size) (by omega)
    simpa [bs_drop, bs_take] using this
  have hby : ∀ b ∈ (l.drop at_).take size, b < 256 := fun b hb => hR.byte b (List.mem_of_mem_drop (List.mem_of_mem_take hb))
  go_enter Tryz.func60, Tryz.ntmps60
  go_wp2_with (first
    | (go_at_call 65; refine (stopped_ok hR).mono ?_; rintro e w1 ⟨rfl, rfl⟩)
    | (go_at_call 63; refine (left_any hR).mono ?_; rintro e w1 ⟨rfl, q, rfl⟩))
  go_quiet ((go_at_call 84; exact quiet_same (fixed_any _ (hcut.drewN _) hs hby)))
  go_wp2_with fail
  all_goals
    go_ret
    first
      | exact ⟨rfl, hR.goes _ _ hroom⟩
      | (have hca : c = at_ := by assumption
         subst hca
         exact ⟨rfl, hR.goes _ _ hroom⟩)
end Go.Proofs.YtppeagjklndidaaGreatDoor

/- Contract of the Reader's Fix, with every error. -/
namespace Go.Proofs.YtppeagjklndidaaGreatDoor
open Go.RowKit
set_option linter.unusedVariables false
set_option linter.unusedSimpArgs false
set_option maxRecDepth 100000

theorem nfix_is {w : World} {g : Nat} {l : List Nat} {at_ : Nat} {x : Option (Int × Nat)} (n : Int) (h : RdS w g l at_ x) :
    Calls Tryz.prog 60 #[.pointer (some ⟨g, 0, none⟩), .int .i64 n] w
      fun e w' => e = .returned (.int .u64 ((fixS l at_ x n).1 : Int)) ∧ RdTo w g l (fixS l at_ x n).2.1 (fixS l at_ x n).2.2 w' := by
  cases x with
  | some x =>
    go_enter Tryz.func60, Tryz.ntmps60
    go_wp2_with (go_at_call 65; refine (stopped_err h).mono ?_; rintro e w1 ⟨rfl, rfl⟩)
    go_ret
    exact ⟨rfl, RdTo.same h (Drawn.refl w)⟩
  | none =>
    have hp := h.place
    by_cases h0 : n < 0 ∨ 8 < n
    · have hS : fixS l at_ none n = (0, at_, some (1, at_)) := by unfold fixS; simp only; rw [if_pos h0]
      rw [hS]
      clear hS
      rcases h0 with h0 | h0
      · go_enter Tryz.func60, Tryz.ntmps60
        go_wp2_with (first
          | (go_at_call 65; refine (stopped_is h).mono ?_; rintro e w1 ⟨rfl, rfl⟩)
          | (go_at_call 67; refine (stop_is 1 h).mono ?_; rintro e w2 ⟨rfl, hto⟩))
        go_ret
        exact ⟨rfl, hto⟩
      · have h0' : ¬ n < 0 := by omega
        go_enter Tryz.func60, Tryz.ntmps60
        go_wp2_with (first
          | (go_at_call 65; refine (stopped_is h).mono ?_; rintro e w1 ⟨rfl, rfl⟩)
          | (go_at_call 67; refine (stop_is 1 h).mono ?_; rintro e w2 ⟨rfl, hto⟩))
        go_ret
        exact ⟨rfl, hto⟩
    · by_cases h1 : (l.length : Int) - at_ < n
      · have hS : fixS l at_ none n = (0, at_, some (2, at_)) := by unfold fixS; simp only; rw [if_neg h0, if_pos h1]
        rw [hS]
        clear hS
        have h2 : ¬ n < 0 := fun h' => h0 (.inl h')
        have h3 : ¬ 8 < n := fun h' => h0 (.inr h')
        clear h0
        go_enter Tryz.func60, Tryz.ntmps60
        go_wp2_with (first
          | (go_at_call 65; refine (stopped_is h).mono ?_; rintro e w1 ⟨rfl, rfl⟩)
          | (go_at_call 63; refine (left_is h).mono ?_; rintro e w1 ⟨rfl, hd⟩; have h2' := h.next (hd.below (Below.refl _ _)))
          | (go_at_call 67; refine (stop_is 2 h2').mono ?_; rintro e w2 ⟨rfl, hto⟩))
        go_ret
        exact ⟨rfl, hto.1, only_trans (only_below (World.grownBy.refl w _) (hd.below (Below.refl _ _))) hto.2⟩
      · obtain ⟨k, rfl⟩ := Int.eq_ofNat_of_zero_le (show 0 ≤ n by omega)
        have hS : fixS l at_ none (k : Int) = (unfx ((l.drop at_).take k), at_ + k, none) := by unfold fixS; simp only; rw [if_neg h0, if_neg h1]; rfl
        rw [hS]
        obtain ⟨A, m, c, err, hR, rfl⟩ := h
        exact (fix_ok k hR (by omega) (by have := hR.length; omega)).mono fun e w' ⟨he, hr, hg⟩ => ⟨he, ⟨A, m, c, _, hr, rfl⟩, hg⟩
end Go.Proofs.YtppeagjklndidaaGreatDoor

/- A num reader's bytes are bytes, and so are those that it takes. No condition. -/
namespace Go.Proofs.YtppeagjklndidaaGreatDoor
open Go.RowKit
set_option linter.unusedVariables false
set_option linter.unusedSimpArgs false
set_option maxRecDepth 100000

theorem RdS.byte {w : World} {g : Nat} {l : List Nat} {at_ : Nat} {x : Option (Int × Nat)} (h : RdS w g l at_ x) : ∀ b ∈ l, b < 256 := by
  obtain ⟨A, n, c, err, hR, _⟩ := h
  exact hR.byte
theorem takeS_byte (b : List Nat) (at_ : Nat) (x : Option (Int × Nat)) (n : Int) (hb : ∀ v ∈ b, v < 256) : (∀ v ∈ (takeS b at_ x n).1, v < 256) ∧ (takeS b at_ x n).1.length ≤ b.length := by
  unfold takeS
  cases x with
  | some y => simp
  | none =>
    simp only
    split
    · simp
    · split
      · simp
      · refine ⟨fun v hv => hb v (List.mem_of_mem_drop (List.mem_of_mem_take hv)), ?_⟩
        simp only [List.length_take, List.length_drop]; omega
end Go.Proofs.YtppeagjklndidaaGreatDoor
