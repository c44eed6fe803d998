/- The document's own reader: contract of its Take, with every error. -/
import Derived.Test.YtieknhhhcjdbnaaDoorRefTake
namespace Go.Proofs.YtieknhhhcjdbnaaDoor
open Go.RowKit
set_option linter.unusedVariables false
set_option linter.unusedSimpArgs false
set_option maxRecDepth 100000

theorem rtake_isN {w : World} {g : Nat} {l : List Nat} {at_ : Nat} {x : Option (Int × Nat)} (n : Int) (h : RfS w g l at_ x) :
    Calls Tryd.prog 57 #[.pointer (some ⟨g, 0, none⟩), .int .i64 n] w
      fun e w' => BytesN w.heap.size (takeS l at_ x n).1 e w' ∧ RfTo w g l (takeS l at_ x n).2.1 (takeS l at_ x n).2.2 w' := by
  have h0 := h
  obtain ⟨⟨A, m, c, hR⟩, hX⟩ := h
  have hc0 := hR.blk.cell 0
  have hc1 := hR.blk.cell 1
  have hc2 := hR.blk.cell 2
  simp only [List.getElem?_toArray, List.getElem?_cons_succ, List.getElem?_cons_zero] at hc0 hc1 hc2
  cases x with
  | some x =>
    obtain ⟨k0, on⟩ := x
    have hk0 : (k0 == 0) = false := by have := hX _ rfl; simp at this; simp [this]
    have hk1 : (k0 != 0) = true := by have := hX _ rfl; simp at this; simp [this]
    have hc2' : w.cell? ⟨g, 2, none⟩ = some (.int .i64 k0) := hc2
    clear hc2
    go_enter Tryd.func57, Tryd.ntmps57
    go_wp2_with fail
    go_ret
    exact ⟨BytesN.none_, RfTo.same h0 (Drawn.refl w)⟩
  | none =>
    have hc2' : w.cell? ⟨g, 2, none⟩ = some (.int .i64 0) := hc2
    clear hc2
    have hp := h0.place
    have hln := hR.length
    by_cases hn0 : n < 0
    · have hS : takeS l at_ none n = ([], at_, failS at_ none 1) := by unfold takeS failS; simp [hn0]
      rw [hS]
      clear hS
      go_enter Tryd.func57, Tryd.ntmps57
      go_wp2_with (go_at_call 34; refine (rfail_is 1 h0).mono ?_; rintro e w2 ⟨rfl, hto⟩)
      go_ret
      exact ⟨BytesN.none_, hto⟩
    · by_cases hn1 : (l.length : Int) - at_ < n
      · have hS : takeS l at_ none n = ([], at_, failS at_ none 2) := by unfold takeS failS; simp [hn0, hn1]
        rw [hS]
        clear hS
        have hd : (m : Int) - (at_ : Int) < n := by omega
        have hd2 : decide ((m : Int) - (at_ : Int) < n) = true := by simpa using hd
        have hz := hR.size
        clear hn1 hln
        go_enter Tryd.func57, Tryd.ntmps57
        go_wp2_with fail
        go_quiet (fail)
        go_wp2_with (go_at_call 34; refine (rfail_is 2 (h0.next ((Drawn.one w nq).below (Below.refl w.heap.size w)))).mono ?_; rintro e w2 ⟨rfl, hto1, hto2⟩)
        go_ret
        exact ⟨BytesN.none_, hto1, (only_drewN (World.grownBy.refl w _) _).trans hto2⟩
      · obtain ⟨k, rfl⟩ := Int.eq_ofNat_of_zero_le (show 0 ≤ n by omega)
        have hS : takeS l at_ none (k : Int) = ((l.drop at_).take k, at_ + k, none) := by unfold takeS; simp [hn1]
        rw [hS]
        exact rtake_okN k hR (by omega)
theorem rtake_is {w : World} {g : Nat} {l : List Nat} {at_ : Nat} {x : Option (Int × Nat)} (n : Int) (h : RfS w g l at_ x) :
    Calls Tryd.prog 57 #[.pointer (some ⟨g, 0, none⟩), .int .i64 n] w
      fun e w' => Bytes (takeS l at_ x n).1 e w' ∧ RfTo w g l (takeS l at_ x n).2.1 (takeS l at_ x n).2.2 w' :=
  (rtake_isN n h).mono fun _ _ ⟨h1, h2⟩ => ⟨h1.bytes, h2⟩
end Go.Proofs.YtieknhhhcjdbnaaDoor
