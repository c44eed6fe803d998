/- The document's own reader: contract of its Take. -/
import Derived.Deep.RegionLaw
import Derived.Test.YtieknhhhcjdbnaaDoorRefRd
namespace Go.Proofs.YtieknhhhcjdbnaaDoor
open Go.RowKit
set_option linter.unusedVariables false
set_option linter.unusedSimpArgs false
set_option maxRecDepth 100000

/-- What a method answers that answers bytes, in blocks from 'B' on. -/
def BytesN (B : Nat) (l : List Nat) (e : Ending) (w' : World) : Prop := ∃ A n c, e = .returned (.slice A n c) ∧ Reads w' w'.heap.size 1 A n (bs l) ∧ ∀ ad, A = some ad → B ≤ ad.block
theorem BytesN.bytes {B : Nat} {l : List Nat} {e : Ending} {w' : World} (h : BytesN B l e w') : Bytes l e w' := by
  obtain ⟨A, n, c, he, hr, _⟩ := h
  exact ⟨A, n, c, he, hr⟩
theorem BytesN.none_ {B : Nat} {w' : World} : BytesN B [] (.returned (.slice none 0 0)) w' := ⟨none, 0, 0, rfl, Reads.none_, fun _ h => by cases h⟩
set_option maxHeartbeats 1000000 in
theorem rtake_okN {w : World} {g : Nat} {A : Option Addr} {n c at_ : Nat} {l : List Nat} (size : Nat) (hR : Rf w g A n c at_ 0 0 l) (hroom : at_ + size ≤ n) :
    Calls Tryd.prog 57 #[.pointer (some ⟨g, 0, none⟩), .int .i64 (size : Int)] w
      fun e w' => BytesN w.heap.size ((l.drop at_).take size) e w' ∧ RfTo w g l (at_ + size) none w' := by
  obtain ⟨i0, hi0, hz0, hz1, hz2⟩ := info_parts info_u8
  have hc0 := hR.blk.cell 0
  have hc1 := hR.blk.cell 1
  have hc2 := hR.blk.cell 2
  simp only [List.getElem?_toArray, List.getElem?_cons_succ, List.getElem?_cons_zero] at hc0 hc1 hc2
  have hf1 := hR.blk.frozen 1
  have hz := hR.size
  have hp := hR.place
  have hcap := hR.cap
  have hlt := hR.blk.lt
  have hln := hR.length
  have hcut : Reads w g 1 (if c = at_ then A else Option.map (fun x => x.add at_) A) size (bs ((l.drop at_).take size)) := by
    have := (hR.reads.cut hp hcap).fore (k := size) (by omega)
    simpa [bs_drop, bs_take] using this
  have hdec : decide ((n : Int) - (at_ : Int) < (size : Int)) = false := by simp; omega
  have h0 : ¬ (size : Int) < 0 := by omega
  clear hln
  go_enter Tryd.func57, Tryd.ntmps57
  go_wp2_with fail
  go_quiet (fail)
  go_wp2_with fail
  have s1 := hR.set (w1 := w.drewN nq) ((Drawn.one w nq).below (Below.refl w.heap.size w)) 1 (.int .i64 ((at_ : Int) + (size : Int))) (at_ + size) 0 0 hroom rfl
  generalize hW : (w.drewN nq).setCell ⟨g, 1, none⟩ (.int .i64 ((at_ : Int) + (size : Int))) = W at s1 ⊢
  clear hW
  obtain ⟨s1, s2⟩ := s1
  have hC0 := s1.blk.cell 0
  have hC1 : W.cell? ⟨g, 1, none⟩ = some (.int .i64 ((at_ : Int) + (size : Int))) := s1.blk.cell 1
  simp only [List.getElem?_toArray, List.getElem?_cons_succ, List.getElem?_cons_zero] at hC0
  have hltW := s1.blk.lt
  have hcutW : Reads (W.alloc (.cells #[] 5)) g 1 (if c = at_ then A else Option.map (fun x => x.add at_) A) size (bs ((l.drop at_).take size)) := by
    have := ((s1.reads.cut hp hcap).fore (k := size) (by omega)).alloc (by omega) (.cells #[] 5)
    simpa [bs_drop, bs_take] using this
  have hown0 : (W.alloc (.cells #[] 5)).ownsRow W.heap.size 5 1 (.slice (some ⟨W.heap.size, 0, none⟩) 0 0) 0 [] := World.ownsRow_made W _ _ (Nat.le_refl _) (by unfold maxLen; omega) rfl
  have f2 : IntKind.i64.wrap ((at_ : Int) + (size : Int)) = (at_ : Int) + (size : Int) := IntWalk.i64_in _ (by omega)
  have f3 : IntKind.i64.wrap (at_ : Int) = (at_ : Int) := IntWalk.i64_in _ (by omega)
  have f4 : ((at_ : Int) + (size : Int)).toNat = at_ + size := by omega
  have f5 : 0 ≤ (at_ : Int) + (size : Int) := by omega
  have hbd : (at_ : Int) + (size : Int) ≤ (c : Int) := by omega
  have hS : RfS W g l (at_ + size) none := ⟨⟨A, n, c, s1⟩, fun y hy => by cases hy⟩
  clear hR hc0 hc1 hc2 hf1 hcut hdec h0
  by_cases hca : c = at_
  · subst hca
    simp only [if_true] at hcutW
    go_region_law (first
      | (refine step_append_any _ rfl (.tmp 37) (.tmp 52) _ rfl W.heap.size 5 i0 _ 1 1 Tryd.underlying22 hi0 hz0 hz1 hz2 rfl (by omega) (.slice (some ⟨W.heap.size, 0, none⟩) 0 0) 0 [] (by simp [Act.eval, Act.put])
          (by exact hown0) g (A) size (0) (bs ((l.drop c).take size)) (by simp [Act.eval, Act.put]) (by exact hcutW) (bs_one _) (by unfold maxLen; omega) (by omega) (by simp) ?_
         intro v2 w2 hown2 hg2 hat2
         have hbw : Below W.heap.size W w2 := Below.grown (by go_grown) hg2 (by simp) (fun k hk => by simp [Value.ownBlock] at hk; omega)
         simp only [Nat.zero_add, List.nil_append] at hown2
         obtain ⟨A2, c2, rfl, _, _, hr2⟩ := own_slice hown2))
    all_goals
      go_wp2_with fail
      go_ret
      exact ⟨⟨A2, size, c2, rfl, hr2, fun ad had => by subst had; exact Nat.le_trans s2.size (hown2.lt _ rfl).1⟩, hS.next hbw, only_below s2 hbw⟩
  · simp only [if_neg hca] at hcutW
    go_region_law (first
      | (refine step_append_any _ rfl (.tmp 37) (.tmp 52) _ rfl W.heap.size 5 i0 _ 1 1 Tryd.underlying22 hi0 hz0 hz1 hz2 rfl (by omega) (.slice (some ⟨W.heap.size, 0, none⟩) 0 0) 0 [] (by simp [Act.eval, Act.put])
          (by exact hown0) g (Option.map (fun x => x.add at_) A) size (c - at_) (bs ((l.drop at_).take size)) (by simp [Act.eval, Act.put]) (by exact hcutW) (bs_one _) (by unfold maxLen; omega) (by omega) (by simp) ?_
         intro v2 w2 hown2 hg2 hat2
         have hbw : Below W.heap.size W w2 := Below.grown (by go_grown) hg2 (by simp) (fun k hk => by simp [Value.ownBlock] at hk; omega)
         simp only [Nat.zero_add, List.nil_append] at hown2
         obtain ⟨A2, c2, rfl, _, _, hr2⟩ := own_slice hown2))
    all_goals
      go_wp2_with fail
      go_ret
      exact ⟨⟨A2, size, c2, rfl, hr2, fun ad had => by subst had; exact Nat.le_trans s2.size (hown2.lt _ rfl).1⟩, hS.next hbw, only_below s2 hbw⟩
end Go.Proofs.YtieknhhhcjdbnaaDoor
