/- The walk of the statement RunsGets: any bytes are as many numbers as the document says, or none. -/
import Derived.Test.YtlonaeonndjmmaaDoorRnAwake
import Derived.Test.YtlonaeonndjmmaaDoorRnGet
import Derived.Test.YtlonaeonndjmmaaDoorRnRefGet
import Derived.Test.YtlonaeonndjmmaaDoorSameZ
namespace Go.Proofs.YtlonaeonndjmmaaDoor
open Go.RowKit
set_option linter.unusedVariables false
set_option linter.unusedSimpArgs false
set_option maxRecDepth 100000

theorem rnGets_else (A : Option Addr) (n c : Nat) (k : Int) (w : World) (h : 500 < n ∨ (3000 < k ∧ k ≤ 65536)) :
    Calls Tryd.prog 3 #[.slice A n c, .int .i64 k] w fun e w' => e = .returned (.bool true) ∧ Below w.heap.size w w' := by
  by_cases h1 : 500 < n
  case' neg =>
    have h3 : 3000 < k := by omega
    have h4 : k ≤ 65536 := by omega
  all_goals
    clear h
    go_enter Tryd.func3, Tryd.ntmps3
    go_wp2_with fail
    refine (rnAwake_any w).mono ?_
    rintro e w1 ⟨rfl, hb⟩
    go_wp2_with fail
    go_ret
    exact ⟨rfl, hb⟩
theorem rS_length (b : List Nat) (k : Int) : (rS b k).length ≤ 65536 := by
  unfold rS
  split
  · rename_i h
    unfold rE at h
    by_cases hk : k < 0 ∨ 65536 < k
    · rw [if_pos hk] at h; cases h
    · have h2 := (rK_none (b := b) (N := k.toNat) _ (Nat.le_refl _)).2
      have : (expd (rr b (rK b k.toNat))).length = tot b (rK b k.toNat) := rfl
      omega
  · simp
set_option maxHeartbeats 1000000 in
theorem rnGets_main (A : Option Addr) (n c : Nat) (k : Int) (b : List Nat) (w : World) (h1 : Reads w w.heap.size 1 A n (bs b)) (hb : ∀ x ∈ b, x < 256) (hnc : n ≤ c) (hn : n ≤ 500) (hk : k ≤ 3000 ∨ 65536 < k) (hmet : Met w) :
    Calls Tryd.prog 3 #[.slice A n c, .int .i64 k] w fun e w' => e = .returned (.bool true) ∧ Below w.heap.size w w' := by
  have CG := Lib.hid (fun W hr hm => rnGet_any A n c k b W hr hb (by omega) hm)
  have CR := Lib.hid (fun W hr => refRnGet_any A n c k b W hr hb hnc (by omega))
  have hSl := rS_length b k
  obtain ⟨r, hr0⟩ : ∃ r, r = rE b k := ⟨_, rfl⟩
  obtain ⟨S, hS0⟩ : ∃ S, S = rS b k := ⟨_, rfl⟩
  rw [← hr0, ← hS0] at CG CR
  rw [← hS0] at hSl
  clear hr0 hS0 hb
  rcases hk with hk | hk
  case' inl => have d3 : decide ((3000 : Int) < k) = false := by simp; omega
  case' inr =>
    have d3 : decide ((3000 : Int) < k) = true := by simp; omega
    have d4 : decide (k ≤ (65536 : Int)) = false := by simp; omega
  all_goals
    go_enter Tryd.func3, Tryd.ntmps3
    go_wp2_with fail
    refine (CG.out w h1 hmet).mono ?_
    intro e w1 hN1
    obtain ⟨A1, c1, rfl, _, _, r1, hb1⟩ := hN1.opened
    have h11 := h1.next hb1
    clear hN1 h1
    go_wp2_with fail
    refine (CR.out w1 h11).mono ?_
    intro e w2 hN2
    obtain ⟨A2, c2, rfl, _, _, r2, hb2⟩ := hN2.opened
    have r12 := r1.next hb2
    have hb02 := hb1.trans (hb2.mono hb1.size)
    clear hN2 r1 h11 hb1 hb2
    go_wp2_with fail
    refine (sameZ_true A1 A2 S.length c1 c2 S w2 r12 r2 (by omega)).mono ?_
    rintro e w3 ⟨rfl, hd3⟩
    have hb03 := hd3.below hb02
    clear r12 r2 hd3 hb02
    go_wp2_with fail
    refine (rnAwake_any w3).mono ?_
    rintro e w4 ⟨rfl, hb4⟩
    go_wp2_with fail
    go_ret
    exact ⟨rfl, hb03.trans (hb4.mono hb03.size)⟩
theorem rnGets_any (A : Option Addr) (n c : Nat) (k : Int) (b : List Nat) (w : World) (h1 : Reads w w.heap.size 1 A n (bs b)) (hb : ∀ x ∈ b, x < 256) (hnc : n ≤ c) (hmet : Met w) :
    Calls Tryd.prog 3 #[.slice A n c, .int .i64 k] w fun e w' => e = .returned (.bool true) ∧ Below w.heap.size w w' := by
  by_cases h : 500 < n ∨ (3000 < k ∧ k ≤ 65536)
  · exact rnGets_else A n c k w h
  · exact rnGets_main A n c k b w h1 hb hnc (by omega) (by omega) hmet
end Go.Proofs.YtlonaeonndjmmaaDoor
