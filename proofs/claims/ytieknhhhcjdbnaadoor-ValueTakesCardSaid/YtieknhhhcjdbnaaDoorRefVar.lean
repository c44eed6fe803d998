/- The document's own reader: contracts of its Var and Take. -/
import Derived.Deep.RegionLaw
import Derived.Test.YtieknhhhcjdbnaaDoorRefLook
import Derived.Test.YtieknhhhcjdbnaaDoorJ14
namespace Go.Proofs.YtieknhhhcjdbnaaDoor
open Go.RowKit
set_option linter.unusedVariables false
set_option linter.unusedSimpArgs false
set_option maxRecDepth 100000

theorem look_err (l : List Nat) : ∀ i acc, (lookF i acc l).2.2 ≠ 0 → (lookF i acc l).1 = 0 ∧ (lookF i acc l).2.1 = 0 := by
  induction l with
  | nil => intro i acc h; simp [lookF]
  | cons b r ih =>
    intro i acc h
    unfold lookF at h ⊢
    split
    · simp
    · rename_i h1
      rw [if_neg h1] at h
      split
      · rename_i h2; rw [if_pos h2] at h; simp at h
      · rename_i h2; rw [if_neg h2] at h; exact ih _ _ h

set_option maxHeartbeats 1000000 in
theorem rvar_is {w : World} {g : Nat} {l : List Nat} {at_ : Nat} {x : Option (Int × Nat)} (h : RfS w g l at_ x) :
    Calls Tryd.prog 32 #[.pointer (some ⟨g, 0, none⟩)] w
      fun e w' => e = .returned (.int .u64 ((varS l at_ x).1 : Int)) ∧ RfTo w g l (varS l at_ x).2.1 (varS l at_ x).2.2 w' := by
  have h0 := h
  obtain ⟨⟨A, n, c, hR⟩, hX⟩ := h
  have hc0 := hR.blk.cell 0
  have hc1 := hR.blk.cell 1
  have hc2 := hR.blk.cell 2
  simp only [List.getElem?_toArray, List.getElem?_cons_succ, List.getElem?_cons_zero] at hc0 hc1 hc2
  cases x with
  | some x =>
    obtain ⟨k0, on⟩ := x
    have hk0 : (k0 == 0) = false := by have := hX _ rfl; simp at this; simp [this]
    have hk1 : (k0 != 0) = true := by have := hX _ rfl; simp at this; simp [this]
    have hc2' : w.cell? ⟨g, 2, none⟩ = some (.int .i64 k0) := hc2
    clear hc2
    go_enter Tryd.func32, Tryd.ntmps32
    go_wp2_with fail
    go_ret
    exact ⟨rfl, RfTo.same h0 (Drawn.refl w)⟩
  | none =>
    have hc2' : w.cell? ⟨g, 2, none⟩ = some (.int .i64 0) := hc2
    clear hc2
    have hz := hR.size
    have hp := hR.place
    have hcap := hR.cap
    have hcut : Reads w g 1 (if c = at_ then A else Option.map (fun x => x.add at_) A) (n - at_) (bs (l.drop at_)) := by
      have := hR.reads.cut hp hcap
      simpa [bs_drop] using this
    have hby : ∀ b ∈ l.drop at_, b < 256 := fun b hb => hR.byte b (List.mem_of_mem_drop hb)
    have hrv := fun (W : World) (hW : Reads W g 1 (if c = at_ then A else Option.map (fun x => x.add at_) A) (n - at_) (bs (l.drop at_))) => refLook_any (c - at_) hW hby (by omega)
    have hlen := look_len (l.drop at_) 0 0
    have herr := look_err (l.drop at_) 0 0
    have hln := hR.length
    rw [List.length_drop] at hlen
    have hVS : varS l at_ none = if (lookF 0 0 (l.drop at_)).2.2 = 0 then ((lookF 0 0 (l.drop at_)).1, at_ + (lookF 0 0 (l.drop at_)).2.1, none) else (0, at_, some (((lookF 0 0 (l.drop at_)).2.2 : Int), at_)) := rfl
    rw [hVS]
    rcases hlk : lookF 0 0 (l.drop at_) with ⟨v, m, e⟩
    rw [hlk] at hlen hrv herr
    have hrv2 : ∀ W : World, Reads W g 1 (if c = at_ then A else Option.map (fun x => x.add at_) A) (n - at_) (bs (l.drop at_)) → Calls Tryd.prog 58 #[.slice (if c = at_ then A else Option.map (fun x => x.add at_) A) (n - at_) (c - at_)] W (fun ev w' => ev = Ending.returned (Value.tuple #[.int .u64 (v : Int), .int .i64 (m : Int), .int .i64 (e : Int)]) ∧ W = w') :=
      fun W hW => (hrv W hW).mono fun ev w' ⟨h1, h2⟩ => ⟨h1, h2⟩
    have HRV := Lib.hid hrv2
    have hm : at_ + m ≤ n := by
      by_cases he : e = 0
      · have := hlen he; simp only at this; omega
      · have := (herr he).2; simp only at this; omega
    have hgoal : (if e = 0 then (v, at_ + m, none) else (0, at_, some ((e : Int), at_)) : Nat × Nat × Option (Int × Nat)) = (v, at_ + m, failS at_ none (e : Int)) := by
      by_cases he : e = 0
      · subst he; simp [failS]
      · have h1 := herr he
        simp only at h1
        rw [if_neg he]
        have : ((e : Int) = 0) = False := by simp; omega
        simp [failS, h1.1, h1.2, he]
    show Calls _ _ _ _ fun ev w' => ev = .returned (.int .u64 (((if e = 0 then (v, at_ + m, none) else (0, at_, some ((e : Int), at_)) : Nat × Nat × Option (Int × Nat))).1 : Int)) ∧ RfTo w g l (if e = 0 then (v, at_ + m, none) else (0, at_, some ((e : Int), at_)) : Nat × Nat × Option (Int × Nat)).2.1 (if e = 0 then (v, at_ + m, none) else (0, at_, some ((e : Int), at_)) : Nat × Nat × Option (Int × Nat)).2.2 w'
    rw [hgoal]
    clear hrv hrv2 hlen hlk hVS hln hby herr hgoal
    go_enter Tryd.func32, Tryd.ntmps32
    go_wp2_with fail
    go_quiet ((go_at_call 58; first | exact quiet_same0 (HRV.out _ (hcut.drewN _)) | exact quiet_same (HRV.out _ (hcut.drewN _))))
    go_wp2_with fail
    all_goals
      refine (rfail_is (e : Int) (h0.next (Drawn.below (Drawn.one w nq) (Below.refl w.heap.size w)))).mono ?_
      rintro e2 w2 ⟨rfl, hS2, hg2⟩
      obtain ⟨⟨A2, n2, c2, hR2⟩, hX2⟩ := hS2
      have hd1 := hR2.blk.cell 1
      have hz1 := hR2.blk.frozen 1
      simp only [List.getElem?_toArray, List.getElem?_cons_succ, List.getElem?_cons_zero] at hd1
      go_wp2_with fail
      go_ret
      have hn2 : n2 = n := by have := hR2.length; have := hR.length; omega
      have s1 := hR2.set (Below.refl w2.heap.size w2) 1 (.int .i64 ((at_ : Int) + (m : Int))) (at_ + m) _ _ (by omega) rfl
      exact ⟨rfl, ⟨⟨A2, n2, c2, s1.1⟩, hX2⟩, ((only_drewN (World.grownBy.refl w _) _).trans hg2).trans s1.2⟩
end Go.Proofs.YtieknhhhcjdbnaaDoor
