/- Contracts of the statements' own small functions: Same tells whether two slices hold the same bytes; it changes nothing. -/
import Derived.Test.YtkopoepoinkpeaaDoorJ2
namespace Go.Proofs.YtkopoepoinkpeaaDoor
open Go.RowKit
set_option linter.unusedVariables false
set_option linter.unusedSimpArgs false
set_option maxRecDepth 100000

def sameB (l m : List Nat) : Bool := decide (l = m)
theorem sameB_true {l m : List Nat} (h : l = m) : sameB l m = true := by unfold sameB; simp [h]
theorem sameB_false {l m : List Nat} (h : l ≠ m) : sameB l m = false := by unfold sameB; simp [h]

set_option maxHeartbeats 400000 in
theorem same_any (A A' : Option Addr) (n c m c' : Nat) (l1 l2 : List Nat) (w : World) (h1 : Reads w w.heap.size 1 A n (bs l1)) (h2 : Reads w w.heap.size 1 A' m (bs l2)) (hn : n ≤ 140737488355328) :
    Calls Tryd.prog 24 #[.slice A n c, .slice A' m c'] w fun e w' => e = .returned (.bool (sameB l1 l2)) ∧ Drawn w w' := by
  have e1 : l1.length = n := by have := h1.1; rw [bs_length] at this; omega
  have e2 : l2.length = m := by have := h2.1; rw [bs_length] at this; omega
  by_cases hnm : n = m
  · subst hnm
    have E1 := Lib.hid e1; have E2 := Lib.hid e2; clear e1 e2
    go_enter Tryd.func24, Tryd.ntmps24
    go_wp2_with fail
    go_loopw [5] (fun i wr => ∃ k : Nat, k ≤ n ∧ i = .int .i64 (k : Int) ∧ Hid (l1.take k = l2.take k) ∧ ∃ q, wr = w.drewN q) (fun i _ => n - (intOf i).toNat)
    case atStart => exact ⟨0, Nat.zero_le _, rfl, Lib.hid (by simp), 0, rfl⟩
    case round =>
      obtain ⟨k, hk, rfl, hpre, q, rfl⟩ := hrel
      by_cases hlt : k < n
      · obtain ⟨ad, u, rfl, _, hu, hc⟩ := h1.at_ hlt
        obtain ⟨ad', u', rfl, _, hu', hc'⟩ := h2.at_ hlt
        obtain ⟨b, hb, rfl⟩ := bs_at hu
        obtain ⟨b', hb', rfl⟩ := bs_at hu'
        have HB := Lib.hid hb; have HB' := Lib.hid hb'
        clear hb hb' hu hu'
        by_cases hbb : b = b'
        · subst hbb
          go_wp2_with fail
          go_quiet (fail)
          go_wp2_with fail
          have hpre' := hpre.out
          refine ⟨⟨k + 1, by omega, by go_num, Lib.hid ?_, _, rfl⟩, by simp [intOf]; omega⟩
          rw [List.take_add_one, List.take_add_one, hpre', HB.out, HB'.out]
        · have hne : ((b : Int) != (b' : Int)) = true := by simp; omega
          have hne' : ((b : Int) == (b' : Int)) = false := by simp; omega
          go_wp2_with fail
          go_quiet (fail)
          go_wp2_with fail
          go_ret
          refine ⟨ret_of (congrArg Value.bool (sameB_false ?_).symm), (Drawn.one w q).more _⟩
          intro h
          have := HB.out
          rw [h, HB'.out] at this
          injection this with this
          omega
      · go_wp2_with fail
        go_ret
        obtain rfl : k = n := by omega
        have e1 := E1.out; have e2 := E2.out; have hpre' := hpre.out
        refine ⟨ret_of (congrArg Value.bool (sameB_true ?_).symm), _, rfl⟩
        rwa [List.take_of_length_le (by omega), List.take_of_length_le (by omega)] at hpre'
  · have hne : ((n : Int) != (m : Int)) = true := by simp; omega
    have hne' : ((n : Int) == (m : Int)) = false := by simp; omega
    have E1 := Lib.hid e1; have E2 := Lib.hid e2; clear e1 e2
    go_enter Tryd.func24, Tryd.ntmps24
    go_wp2_with fail
    go_ret
    have e1 := E1.out; have e2 := E2.out
    refine ⟨ret_of (congrArg Value.bool (sameB_false ?_).symm), Drawn.refl w⟩
    rintro rfl
    omega

theorem same_true (A A' : Option Addr) (n c m c' : Nat) (l : List Nat) (w : World) (h1 : Reads w w.heap.size 1 A n (bs l)) (h2 : Reads w w.heap.size 1 A' m (bs l)) (hn : n ≤ 140737488355328) :
    Calls Tryd.prog 24 #[.slice A n c, .slice A' m c'] w fun e w' => e = .returned (.bool true) ∧ Drawn w w' :=
  (same_any A A' n c m c' l l w h1 h2 hn).mono fun e w' ⟨he, hw⟩ => ⟨by rw [he, sameB_true rfl], hw⟩
end Go.Proofs.YtkopoepoinkpeaaDoor
