/- Texts joined: RefVar RefTake. -/
import Derived.Deep.RegionLaw
import Derived.Test.YtppeagjklndidaaGreatDoorRefLook
import Derived.Test.YtppeagjklndidaaGreatDoorJ24
import Derived.Test.YtppeagjklndidaaGreatDoorJ39
/- The document's own reader: contracts of its Var and Take. -/
namespace Go.Proofs.YtppeagjklndidaaGreatDoor
open Go.RowKit
set_option linter.unusedVariables false
set_option linter.unusedSimpArgs false
set_option maxRecDepth 100000

theorem look_err (l : List Nat) : ∀ i acc, (lookF i acc l).2.2 ≠ 0 → (lookF i acc l).1 = 0 ∧ (lookF i acc l).2.1 = 0 := by
  induction l with
  | nil => intro i acc h; simp [lookF]
  | cons b r ih =>
    intro i acc h
    unfold lookF at h ⊢
    split
    · simp
    · rename_i h1
      rw [if_neg h1] at h
      split
      · rename_i h2; rw [if_pos h2] at h; simp at h
      · rename_i h2; rw [if_neg h2] at h; exact ih _ _ h

set_option maxHeartbeats 1000000 in
theorem rvar_is {w : World} {g : Nat} {l : List Nat} {at_ : Nat} {x : Option (Int × Nat)} (h : RfS w g l at_ x) :
    Calls Tryz.prog 17 #[.pointer (some ⟨g, 0, none⟩)] w
      fun e w' => e = .returned (.int .u64 ((varS l at_ x).1 : Int)) ∧ RfTo w g l (varS l at_ x).2.1 (varS l at_ x).2.2 w' := by
  have h0 := h
  obtain ⟨⟨A, n, c, hR⟩, hX⟩ := h
  have hc0 := hR.blk.cell 0
  have hc1 := hR.blk.cell 1
  have hc2 := hR.blk.cell 2
  simp only [List.getElem?_toArray, List.getElem?_cons_succ, List.getElem?_cons_zero] at hc0 hc1 hc2
  cases x with
  | some x =>
    obtain ⟨k0, on⟩ := x
    have hk0 : (k0 == 0) = false := by have := hX _ rfl; simp at this; simp [this]
    have hk1 : (k0 != 0) = true := by have := hX _ rfl; simp at this; simp [this]
    have hc2' : w.cell? ⟨g, 2, none⟩ = some (.int .i64 k0) := hc2
    clear hc2
    go_enter Tryz.func17, Tryz.ntmps17
    go_wp2_with fail
    go_ret
    exact ⟨rfl, RfTo.same h0 (Drawn.refl w)⟩
  | none =>
    have hc2' : w.cell? ⟨g, 2, none⟩ = some (.int .i64 0) := hc2
    clear hc2
    have hz := hR.size
    have hp := hR.place
    have hcap := hR.cap
    have hcut : Reads w g 1 (if c = at_ then A else Option.map (fun x => x.add at_) A) (n - at_) (bs (l.drop at_)) := by
      have := hR.reads.cut hp hcap
      simpa [bs_drop] using this
    have hby : ∀ b ∈ l.drop at_, b < 256 := fun b hb => hR.byte b (List.mem_of_mem_drop hb)
    have hrv := fun (W : World) (hW : Reads W g 1 (if c = at_ then A else Option.map (fun x => x.add at_) A) (n - at_) (bs (l.drop at_))) => refLook_any (c - at_) hW hby (by omega)
    have hlen := look_len (l.drop at_) 0 0
    have herr := look_err (l.drop at_) 0 0
    have hln := hR.length
    rw [List.length_drop] at hlen
    have hVS : varS l at_ none = if (lookF 0 0 (l.drop at_)).2.2 = 0 then ((lookF 0 0 (l.drop at_)).1, at_ + (lookF 0 0 (l.drop at_)).2.1, none) else (0, at_, some (((lookF 0 0 (l.drop at_)).2.2 : Int), at_)) := rfl
    rw [hVS]
    rcases hlk : lookF 0 0 (l.drop at_) with ⟨v, m, e⟩
    rw [hlk] at hlen hrv herr
    have hrv2 : ∀ W : World, Reads W g 1 (if c = at_ then A else Option.map (fun x => x.add at_) A) (n - at_) (bs (l.drop at_)) → Calls Tryz.prog 38 #[.slice (if c = at_ then A else Option.map (fun x => x.add at_) A) (n - at_) (c - at_)] W (fun ev w' => ev = Ending.returned (Value.tuple #[.int .u64 (v : Int), .int .i64 (m : Int), .int .i64 (e : Int)]) ∧ W = w') :=
      fun W hW => (hrv W hW).mono fun ev w' ⟨h1, h2⟩ => ⟨h1, h2⟩
    have HRV := Lib.hid hrv2
    have hm : at_ + m ≤ n := by
      by_cases he : e = 0
      · have := hlen he; simp only at this; omega
      · have := (herr he).2; simp only at this; omega
    have hgoal : (if e = 0 then (v, at_ + m, none) else (0, at_, some ((e : Int), at_)) : Nat × Nat × Option (Int × Nat)) = (v, at_ + m, failS at_ none (e : Int)) := by
      by_cases he : e = 0
      · subst he; simp [failS]
      · have h1 := herr he
        simp only at h1
        rw [if_neg he]
        have : ((e : Int) = 0) = False := by simp; omega
        simp [failS, h1.1, h1.2, he]
    show Calls _ _ _ _ fun ev w' => ev = .returned (.int .u64 (((if e = 0 then (v, at_ + m, none) else (0, at_, some ((e : Int), at_)) : Nat × Nat × Option (Int × Nat))).1 : Int)) ∧ RfTo w g l (if e = 0 then (v, at_ + m, none) else (0, at_, some ((e : Int), at_)) : Nat × Nat × Option (Int × Nat)).2.1 (if e = 0 then (v, at_ + m, none) else (0, at_, some ((e : Int), at_)) : Nat × Nat × Option (Int × Nat)).2.2 w'
    rw [hgoal]
    clear hrv hrv2 hlen hlk hVS hln hby herr hgoal
    go_enter Tryz.func17, Tryz.ntmps17
    go_wp2_with fail
    go_quiet ((go_at_call 38; first | exact quiet_same0 (HRV.out _ (hcut.drewN _)) | exact quiet_same (HRV.out _ (hcut.drewN _))))
    go_wp2_with fail
    all_goals
      refine (rfail_is (e : Int) (h0.next (Drawn.below (Drawn.one w nq) (Below.refl w.heap.size w)))).mono ?_
      rintro e2 w2 ⟨rfl, hS2, hg2⟩
      obtain ⟨⟨A2, n2, c2, hR2⟩, hX2⟩ := hS2
      have hd1 := hR2.blk.cell 1
      have hz1 := hR2.blk.frozen 1
      simp only [List.getElem?_toArray, List.getElem?_cons_succ, List.getElem?_cons_zero] at hd1
      go_wp2_with fail
      go_ret
      have hn2 : n2 = n := by have := hR2.length; have := hR.length; omega
      have s1 := hR2.set (Below.refl w2.heap.size w2) 1 (.int .i64 ((at_ : Int) + (m : Int))) (at_ + m) _ _ (by omega) rfl
      exact ⟨rfl, ⟨⟨A2, n2, c2, s1.1⟩, hX2⟩, ((only_drewN (World.grownBy.refl w _) _).trans hg2).trans s1.2⟩
end Go.Proofs.YtppeagjklndidaaGreatDoor

/- The document's own reader: contract of its Take. -/
namespace Go.Proofs.YtppeagjklndidaaGreatDoor
open Go.RowKit
set_option linter.unusedVariables false
set_option linter.unusedSimpArgs false
set_option maxRecDepth 100000

/-- What a method answers that answers bytes, in blocks from 'B' on. -/
def BytesN (B : Nat) (l : List Nat) (e : Ending) (w' : World) : Prop := ∃ A n c, e = .returned (.slice A n c) ∧ Reads w' w'.heap.size 1 A n (bs l) ∧ ∀ ad, A = some ad → B ≤ ad.block
theorem BytesN.bytes {B : Nat} {l : List Nat} {e : Ending} {w' : World} (h : BytesN B l e w') : Bytes l e w' := by
  obtain ⟨A, n, c, he, hr, _⟩ := h
  exact ⟨A, n, c, he, hr⟩
theorem BytesN.none_ {B : Nat} {w' : World} : BytesN B [] (.returned (.slice none 0 0)) w' := ⟨none, 0, 0, rfl, Reads.none_, fun _ h => by cases h⟩
set_option maxHeartbeats 1000000 in
theorem rtake_okN {w : World} {g : Nat} {A : Option Addr} {n c at_ : Nat} {l : List Nat} (size : Nat) (hR : Rf w g A n c at_ 0 0 l) (hroom : at_ + size ≤ n) :
    Calls Tryz.prog 40 #[.pointer (some ⟨g, 0, none⟩), .int .i64 (size : Int)] w
      fun e w' => BytesN w.heap.size ((l.drop at_).take size) e w' ∧ RfTo w g l (at_ + size) none w' := by
  obtain ⟨i0, hi0, hz0, hz1, hz2⟩ := info_parts info_u8
  have hc0 := hR.blk.cell 0
  have hc1 := hR.blk.cell 1
  have hc2 := hR.blk.cell 2
  simp only [List.getElem?_toArray, List.getElem?_cons_succ, List.getElem?_cons_zero] at hc0 hc1 hc2
  have hf1 := hR.blk.frozen 1
  have hz := hR.size
  have hp := hR.place
  have hcap := hR.cap
  have hlt := hR.blk.lt
  have hln := hR.length
  have hcut : Reads w g 1 (if c = at_ then A else Option.map (fun x => x.add at_) A) size (bs ((l.drop at_).take size)) := by
    have := (hR.reads.cut hp hcap).fore (k := size) (by omega)
    simpa [bs_drop, bs_take] using this
  have hdec : decide ((n : Int) - (at_ : Int) < (size : Int)) = false := by simp; omega
  have h0 : ¬ (size : Int) < 0 := by omega
  clear hln
  go_enter Tryz.func40, Tryz.ntmps40
  go_wp2_with fail
  go_quiet (fail)
  go_wp2_with fail
  have s1 := hR.set (w1 := w.drewN nq) ((Drawn.one w nq).below (Below.refl w.heap.size w)) 1 (.int .i64 ((at_ : Int) + (size : Int))) (at_ + size) 0 0 hroom rfl
  generalize hW : (w.drewN nq).setCell ⟨g, 1, none⟩ (.int .i64 ((at_ : Int) + (size : Int))) = W at s1 ⊢
  clear hW
  obtain ⟨s1, s2⟩ := s1
  have hC0 := s1.blk.cell 0
  have hC1 : W.cell? ⟨g, 1, none⟩ = some (.int .i64 ((at_ : Int) + (size : Int))) := s1.blk.cell 1
  simp only [List.getElem?_toArray, List.getElem?_cons_succ, List.getElem?_cons_zero] at hC0
  have hltW := s1.blk.lt
  have hcutW : Reads (W.alloc (.cells #[] 5)) g 1 (if c = at_ then A else Option.map (fun x => x.add at_) A) size (bs ((l.drop at_).take size)) := by
    have := ((s1.reads.cut hp hcap).fore (k := size) (by omega)).alloc (by omega) (.cells #[] 5)
    simpa [bs_drop, bs_take] using this
  have hown0 : (W.alloc (.cells #[] 5)).ownsRow W.heap.size 5 1 (.slice (some ⟨W.heap.size, 0, none⟩) 0 0) 0 [] := World.ownsRow_made W _ _ (Nat.le_refl _) (by unfold maxLen; omega) rfl
  have f2 : IntKind.i64.wrap ((at_ : Int) + (size : Int)) = (at_ : Int) + (size : Int) := IntWalk.i64_in _ (by omega)
  have f3 : IntKind.i64.wrap (at_ : Int) = (at_ : Int) := IntWalk.i64_in _ (by omega)
  have f4 : ((at_ : Int) + (size : Int)).toNat = at_ + size := by omega
  have f5 : 0 ≤ (at_ : Int) + (size : Int) := by omega
  have hbd : (at_ : Int) + (size : Int) ≤ (c : Int) := by omega
  have hS : RfS W g l (at_ + size) none := ⟨⟨A, n, c, s1⟩, fun y hy => by cases hy⟩
  clear hR hc0 hc1 hc2 hf1 hcut hdec h0
  by_cases hca : c = at_
  · subst hca
    simp only [if_true] at hcutW
    go_region_law (first
      | (refine step_append_any _ rfl (.tmp 37) (.tmp 52) _ rfl W.heap.size 5 i0 _ 1 1 Tryz.underlying22 hi0 hz0 hz1 hz2 rfl (by omega) (.slice (some ⟨W.heap.size, 0, none⟩) 0 0) 0 [] (by simp [Act.eval, Act.put])
          (by exact hown0) g (A) size (0) (bs ((l.drop c).take size)) (by simp [Act.eval, Act.put]) (by exact hcutW) (bs_one _) (by unfold maxLen; omega) (by omega) (by simp) ?_
         intro v2 w2 hown2 hg2 hat2
         have hbw : Below W.heap.size W w2 := Below.grown (by go_grown) hg2 (by simp) (fun k hk => by simp [Value.ownBlock] at hk; omega)
         simp only [Nat.zero_add, List.nil_append] at hown2
         obtain ⟨A2, c2, rfl, _, _, hr2⟩ := own_slice hown2))
    all_goals
      go_wp2_with fail
      go_ret
      exact ⟨⟨A2, size, c2, rfl, hr2, fun ad had => by subst had; exact Nat.le_trans s2.size (hown2.lt _ rfl).1⟩, hS.next hbw, only_below s2 hbw⟩
  · simp only [if_neg hca] at hcutW
    go_region_law (first
      | (refine step_append_any _ rfl (.tmp 37) (.tmp 52) _ rfl W.heap.size 5 i0 _ 1 1 Tryz.underlying22 hi0 hz0 hz1 hz2 rfl (by omega) (.slice (some ⟨W.heap.size, 0, none⟩) 0 0) 0 [] (by simp [Act.eval, Act.put])
          (by exact hown0) g (Option.map (fun x => x.add at_) A) size (c - at_) (bs ((l.drop at_).take size)) (by simp [Act.eval, Act.put]) (by exact hcutW) (bs_one _) (by unfold maxLen; omega) (by omega) (by simp) ?_
         intro v2 w2 hown2 hg2 hat2
         have hbw : Below W.heap.size W w2 := Below.grown (by go_grown) hg2 (by simp) (fun k hk => by simp [Value.ownBlock] at hk; omega)
         simp only [Nat.zero_add, List.nil_append] at hown2
         obtain ⟨A2, c2, rfl, _, _, hr2⟩ := own_slice hown2))
    all_goals
      go_wp2_with fail
      go_ret
      exact ⟨⟨A2, size, c2, rfl, hr2, fun ad had => by subst had; exact Nat.le_trans s2.size (hown2.lt _ rfl).1⟩, hS.next hbw, only_below s2 hbw⟩
end Go.Proofs.YtppeagjklndidaaGreatDoor
