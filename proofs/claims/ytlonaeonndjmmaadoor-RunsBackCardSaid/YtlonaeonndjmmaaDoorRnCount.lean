/- Contract of package runs' Count: how many runs. -/
import Derived.Test.YtlonaeonndjmmaaDoorRnLaid
namespace Go.Proofs.YtlonaeonndjmmaaDoor
open Go.RowKit
set_option linter.unusedVariables false
set_option linter.unusedSimpArgs false
set_option maxRecDepth 100000
attribute [local go_sem] Oper.semAt_some wide_fn wide_depth

theorem elR_size (l : List Int) (k : Nat) : (elR l k).size = 2 := rfl
set_option maxHeartbeats 2000000 in
theorem count_any (A : Option Addr) (n c : Nat) (l : List Int) (w : World) (hr : Reads w w.heap.size 1 A n (zs l)) (hn : n ≤ 17592186044416) :
    Calls Tryd.prog 10 #[.slice A n c] w fun e w' => e = .returned (.int .i64 (rc l : Int)) ∧ Below w.heap.size w w' := by
  have e1 : l.length = n := by have := hr.1; rw [zs_length] at this; omega
  have hrc := rc_le l
  rw [e1] at hrc
  clear e1
  refine (callsIn_wide (n := 0)).1 ?_
  refine callsIn_of_wp_marks Tryd.func10 rfl trivial ?_ rfl
  simp only [Tryd.ntmps10, List.size_toArray, List.length_cons, List.length_nil, Nat.reduceAdd, Nat.reduceSub, Array.replicate_succ, Array.replicate_zero, List.push_toArray, List.append_toArray, List.nil_append, List.cons_append]
  gi_wp2_with (gi_at_call 18; refine (callsIn_wide.2 (laid_any _ _ _ _)).mono ?_; rintro e w' ⟨rfl, rfl⟩)
  have hB0 : Below w.heap.size w ((w.alloc (.cells #[.int .i64 0] 3)).alloc (.cells #[.slice A n c] 24)) := ((Below.refl _ w).alloc (Nat.le_refl _) _).alloc (by simp) _
  have hbox : Blk ((w.alloc (.cells #[.int .i64 0] 3)).alloc (.cells #[.slice A n c] 24)) w.heap.size 3 #[.int .i64 0] := (Blk.new w _ _).alloc _
  have hcap := (Blk.new (w.alloc (.cells #[.int .i64 0] 3)) 24 #[.slice A n c]).cell 0
  rw [World.size_alloc] at hcap
  have hr0 := hr.below hB0
  have hsz : ((w.alloc (.cells #[.int .i64 0] 3)).alloc (.cells #[.slice A n c] 24)).heap.size = w.heap.size + 2 := by simp
  refine range_gives (gf := 30) (lb := #[.pointer (some ⟨w.heap.size + 1, 0, none⟩)]) rfl (enters_of Tryd.func30 (by kernel_rfl) rfl)
    (laid1_gives A n c w.heap.size (w.heap.size + 1) l _ hcap (by rw [hsz]; omega) (by rw [hsz]; omega) hr0 hn)
    (fun k hk => by rw [hsz]; rcases hk with h | h <;> omega) (fun k hk => hk.elim) (elR_size l)
    (fun k W => Blk W w.heap.size 3 #[.int .i64 (k : Int)] ∧ Below w.heap.size w W) (fun k => { tmps := #[.slice A n c, undef, .int .i64 0, .pointer (some ⟨w.heap.size, 0, none⟩), .slice A n c, .func (.func 30) #[] #[.pointer (some ⟨w.heap.size + 1, 0, none⟩)], .int .i64 ((runs l)[k]?.getD (0, 0)).1, .int .i64 (((runs l)[k]?.getD (0, 0)).2 : Int), undef, undef, undef], defers := [] })
    ⟨hbox, hB0⟩ ?hIn ?hIy ?hT ?hassign ?hbody ?hdone
  case hIn =>
    rintro k X Y row ⟨h1, h2⟩ hg hrow
    rw [hsz] at hrow
    exact ⟨h1.grown hg (fun e => by have := (hrow _ e.symm).1; omega), h2.grown hg h2.size (fun j hj => by have := (hrow _ hj).1; omega)⟩
  case hIy =>
    rintro k X Y row ⟨h1, h2⟩ hg hrow
    exact ⟨h1.grown hg (fun e => (hrow _ e.symm).elim), h2.grown hg h2.size (fun j hj => (hrow _ hj).elim)⟩
  case hT => intro _ _ _ _ _ _; trivial
  case hassign =>
    intro lp k W K hK
    unfold elR
    gi_wp2
    simpa using hK
  case hbody =>
    rintro lp k W hk hs ⟨h1, h2⟩
    have hc := h1.cell 0
    have hf := h1.frozen 0
    generalize ((runs l)[k]?.getD (0, 0)).1 = x
    generalize ((runs l)[k]?.getD (0, 0)).2 = m
    gi_wp2
    refine ⟨(Spares.refl _ _ W).setCell (p := ⟨w.heap.size, 0, none⟩) ?_ _, ?_, h2.setCell (p := ⟨w.heap.size, 0, none⟩) (Nat.le_refl _) _⟩
    · rintro (h | h) <;> simp at h
    · simpa using h1.set_ 0 (.int .i64 ((k : Int) + 1))
  case hdone =>
    rintro D W hD ⟨h1, h2⟩ _ hK
    have hc := h1.cell 0
    gi_wp2
    refine ⟨by simp, .inl ⟨_, _, rfl, run_takeDeferred hK, ?_⟩⟩
    exact ⟨_, results_tmp rfl _ _ _, rfl, h2.trans (belowK_b (w := w) (Nat.le_refl _) W D _ _ (by rw [hsz] at hD; omega) hK rfl rfl)⟩
end Go.Proofs.YtlonaeonndjmmaaDoor
