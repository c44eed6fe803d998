/- For the statement NumReads: the Reader's Fix with every error; the two readers keep each other's state. -/
import Derived.Test.YtphecljgbnkmlaaDoorRefFix
import Derived.Test.YtphecljgbnkmlaaDoorRefBlob
namespace Go.Proofs.YtphecljgbnkmlaaDoor
open Go.RowKit
set_option linter.unusedVariables false
set_option linter.unusedSimpArgs false
set_option maxRecDepth 100000

theorem nfix_is {w : World} {g : Nat} {l : List Nat} {at_ : Nat} {x : Option (Int × Nat)} (n : Int) (h : RdS w g l at_ x) :
    Calls Tryd.prog 10 #[.pointer (some ⟨g, 0, none⟩), .int .i64 n] w
      fun e w' => e = .returned (.int .u64 ((fixS l at_ x n).1 : Int)) ∧ RdTo w g l (fixS l at_ x n).2.1 (fixS l at_ x n).2.2 w' := by
  cases x with
  | some x =>
    go_enter Tryd.func10, Tryd.ntmps10
    go_wp2_with (go_at_call 31; refine (stopped_err h).mono ?_; rintro e w1 ⟨rfl, rfl⟩)
    go_ret
    exact ⟨rfl, RdTo.same h (Drawn.refl w)⟩
  | none =>
    have hp := h.place
    by_cases h0 : n < 0 ∨ 8 < n
    · have hS : fixS l at_ none n = (0, at_, some (1, at_)) := by unfold fixS; simp only; rw [if_pos h0]
      rw [hS]
      clear hS
      rcases h0 with h0 | h0
      · go_enter Tryd.func10, Tryd.ntmps10
        go_wp2_with (first
          | (go_at_call 31; refine (stopped_is h).mono ?_; rintro e w1 ⟨rfl, rfl⟩)
          | (go_at_call 33; refine (stop_is 1 h).mono ?_; rintro e w2 ⟨rfl, hto⟩))
        go_ret
        exact ⟨rfl, hto⟩
      · have h0' : ¬ n < 0 := by omega
        go_enter Tryd.func10, Tryd.ntmps10
        go_wp2_with (first
          | (go_at_call 31; refine (stopped_is h).mono ?_; rintro e w1 ⟨rfl, rfl⟩)
          | (go_at_call 33; refine (stop_is 1 h).mono ?_; rintro e w2 ⟨rfl, hto⟩))
        go_ret
        exact ⟨rfl, hto⟩
    · by_cases h1 : (l.length : Int) - at_ < n
      · have hS : fixS l at_ none n = (0, at_, some (2, at_)) := by unfold fixS; simp only; rw [if_neg h0, if_pos h1]
        rw [hS]
        clear hS
        have h2 : ¬ n < 0 := fun h' => h0 (.inl h')
        have h3 : ¬ 8 < n := fun h' => h0 (.inr h')
        clear h0
        go_enter Tryd.func10, Tryd.ntmps10
        go_wp2_with (first
          | (go_at_call 31; refine (stopped_is h).mono ?_; rintro e w1 ⟨rfl, rfl⟩)
          | (go_at_call 23; refine (left_is h).mono ?_; rintro e w1 ⟨rfl, hd⟩; have h2' := h.next (hd.below (Below.refl _ _)))
          | (go_at_call 33; refine (stop_is 2 h2').mono ?_; rintro e w2 ⟨rfl, hto⟩))
        go_ret
        exact ⟨rfl, hto.1, only_trans (only_below (World.grownBy.refl w _) (hd.below (Below.refl _ _))) hto.2⟩
      · obtain ⟨k, rfl⟩ := Int.eq_ofNat_of_zero_le (show 0 ≤ n by omega)
        have hS : fixS l at_ none (k : Int) = (unfx ((l.drop at_).take k), at_ + k, none) := by unfold fixS; simp only; rw [if_neg h0, if_neg h1]; rfl
        rw [hS]
        obtain ⟨A, m, c, err, hR, rfl⟩ := h
        exact (fix_ok k hR (by omega) (by have := hR.length; omega)).mono fun e w' ⟨he, hr, hg⟩ => ⟨he, ⟨A, m, c, _, hr, rfl⟩, hg⟩

theorem reads_far {w w' : World} {B g n : Nat} {A : Option Addr} {l : List Nat} {t : TypeId} {cs : Array Value} (h : Reads w B 1 A n (bs l)) (hB : B ≤ w.heap.size) (hg : w.grownBy w' (some g)) (hblk : Blk w g t cs) (hno : ∀ (i : Nat) (b : Int), cs[i]? ≠ some (Value.int .u8 b)) : Reads w' B 1 A n (bs l) := by
  refine ⟨h.1, fun hn => ?_⟩
  obtain ⟨b, off, rfl, hlt, hc⟩ := h.plain hn
  refine ⟨_, rfl, hlt, fun j u hu => ?_⟩
  rw [plain_add]
  have hcell := hc j u hu
  refine hg.cell hcell ?_
  intro he
  injection he with he
  obtain ⟨x, _, rfl⟩ := bs_at hu
  have e : b = g := he
  subst e
  rw [hblk.cell] at hcell
  exact hno _ _ hcell
theorem RfS.far {w w' : World} {g g' : Nat} {l l' : List Nat} {at_ at' : Nat} {x x' : Option (Int × Nat)} (h : RfS w g l at_ x) (h' : RdS w g' l' at' x') (hg : w.grownBy w' (some g')) : RfS w' g l at_ x := by
  obtain ⟨⟨A, n, c, hR⟩, hX⟩ := h
  obtain ⟨A', n', c', err, hR', hE⟩ := h'
  refine ⟨⟨A, n, c, hR.blk.grown hg ?_, reads_far hR.reads (Nat.le_of_lt hR.blk.lt) hg hR'.blk ?_, hR.cap, hR.place, hR.size, hR.byte⟩, hX⟩
  · intro e; injection e with e; exact hR.blk.type_ne hR'.blk (by decide) e
  · have he : ∀ b, err ≠ Value.int .u8 b := by
      intro b e
      cases x' with
      | none => rw [hE] at e; cases e
      | some x' => obtain ⟨f, e2, _⟩ := hE; rw [e2] at e; cases e
    intro i b
    rcases i with _ | _ | _ | i
    · simp
    · simp
    · simpa using he b
    · simp
theorem RdS.far {w w' : World} {g g' : Nat} {l l' : List Nat} {at_ at' : Nat} {x x' : Option (Int × Nat)} (h : RdS w g l at_ x) (h' : RfS w g' l' at' x') (hg : w.grownBy w' (some g')) : RdS w' g l at_ x := by
  obtain ⟨A, n, c, err, hR, hE⟩ := h
  obtain ⟨⟨A', n', c', hR'⟩, _⟩ := h'
  refine ⟨A, n, c, err, ⟨hR.blk.grown hg ?_, reads_far hR.reads (Nat.le_of_lt hR.blk.lt) hg hR'.blk ?_, hR.cap, hR.place, hR.size, hR.byte⟩, hE.next fun f t cs hf ht => hf.grown hg ?_⟩
  · intro e; injection e with e; exact hR.blk.type_ne hR'.blk (by decide) e
  · intro i b
    rcases i with _ | _ | _ | _ | i <;> simp
  · intro e; injection e with e; exact hf.type_ne hR'.blk (by rw [ht]; decide) e
end Go.Proofs.YtphecljgbnkmlaaDoor
