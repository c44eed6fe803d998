/- Texts joined: SameZ DictGets. -/
import Derived.Deep.QuietTactic
import Derived.BigQuiet
import Derived.Test.YtppeagjklndidaaGreatDoorJ12
import Derived.Test.YtppeagjklndidaaGreatDoorJ2
import Derived.Test.YtppeagjklndidaaGreatDoorJ22
import Derived.Test.YtppeagjklndidaaGreatDoorJ37
import Derived.Test.YtppeagjklndidaaGreatDoorDcRefGet2
/- Contract of the statements' own Same over numbers with a sign (layer 8's): it answers true of the same numbers; nothing changes. -/
namespace Go.Proofs.YtppeagjklndidaaGreatDoor
open Go.RowKit
set_option linter.unusedVariables false
set_option linter.unusedSimpArgs false
set_option maxRecDepth 100000

set_option maxHeartbeats 400000 in
theorem sameZ_true (A A' : Option Addr) (n c c' : Nat) (l : List Int) (w : World) (h1 : Reads w w.heap.size 1 A n (zs l)) (h2 : Reads w w.heap.size 1 A' n (zs l)) (hn : n ≤ 140737488355328) :
    Calls Tryz.prog 8 #[.slice A n c, .slice A' n c'] w fun e w' => e = .returned (.bool true) ∧ Drawn w w' := by
  go_enter Tryz.func8, Tryz.ntmps8
  go_wp2_with fail
  go_loopw [5] (fun i wr => ∃ k : Nat, k ≤ n ∧ i = .int .i64 (k : Int) ∧ ∃ q, wr = w.drewN q) (fun i _ => n - (intOf i).toNat)
  case atStart => exact ⟨0, Nat.zero_le _, rfl, 0, rfl⟩
  case round =>
    obtain ⟨k, hk, rfl, q, rfl⟩ := hrel
    by_cases hlt : k < n
    · obtain ⟨ad, u, rfl, _, hu, hc⟩ := h1.at_ hlt
      obtain ⟨ad', u', rfl, _, hu', hc'⟩ := h2.at_ hlt
      obtain ⟨b, hb, rfl⟩ := zs_at hu
      obtain ⟨b', hb', rfl⟩ := zs_at hu'
      obtain rfl : b = b' := by rw [hb] at hb'; exact Option.some.inj hb'
      clear hb hb' hu hu'
      go_wp2_with fail
      go_quiet (fail)
      go_wp2_with fail
      exact ⟨⟨k + 1, by omega, by go_num, _, rfl⟩, by simp [intOf]; omega⟩
    · go_wp2_with fail
      go_ret
      exact ⟨rfl, _, rfl⟩
end Go.Proofs.YtppeagjklndidaaGreatDoor

/- The walk of the statement DictGets: any bytes are as many numbers as the document says, or none. -/
namespace Go.Proofs.YtppeagjklndidaaGreatDoor
open Go.RowKit
set_option linter.unusedVariables false
set_option linter.unusedSimpArgs false
set_option maxRecDepth 100000

theorem gets_else (A : Option Addr) (n c : Nat) (k : Int) (w : World) (h : 500 < n ∨ 1000 < k ∧ k ≤ 65536) :
    Calls Tryz.prog 3 #[.slice A n c, .int .i64 k] w fun e w' => e = .returned (.bool true) ∧ Below w.heap.size w w' := by
  by_cases h1 : 500 < n
  · clear h
    go_enter Tryz.func3, Tryz.ntmps3
    go_wp2_with fail
    refine (awake_any w).mono ?_
    rintro e w1 ⟨rfl, hb⟩
    go_wp2_with fail
    go_ret
    exact ⟨rfl, hb⟩
  · obtain ⟨h2, h3⟩ : 1000 < k ∧ k ≤ 65536 := h.resolve_left h1
    clear h
    go_enter Tryz.func3, Tryz.ntmps3
    go_wp2_with fail
    refine (awake_any w).mono ?_
    rintro e w1 ⟨rfl, hb⟩
    go_wp2_with fail
    go_ret
    exact ⟨rfl, hb⟩
set_option maxHeartbeats 1000000 in
theorem gets_main (A : Option Addr) (n c : Nat) (k : Int) (b : List Nat) (w : World) (hr : Reads w w.heap.size 1 A n (bs b)) (hb : ∀ x ∈ b, x < 256) (hnc : n ≤ c) (hmet : Met w) (hn : ¬ 500 < n) (hk : ¬ 1000 < k ∨ ¬ k ≤ 65536) :
    Calls Tryz.prog 3 #[.slice A n c, .int .i64 k] w fun e w' => e = .returned (.bool true) ∧ Below w.heap.size w w' := by
  have hS := dcG_length b k
  have h1 := dcGet_any A n c k b w hr hb (by omega) hmet
  have h2 := fun (w1 : World) (hr1 : Reads w1 w1.heap.size 1 A n (bs b)) => refDcGet_any A n c k b w1 hr1 hb hnc (by omega)
  obtain ⟨S, hSd⟩ : ∃ S, S = dcG b k := ⟨_, rfl⟩
  obtain ⟨r, hrd⟩ : ∃ r, r = dcE b k := ⟨_, rfl⟩
  rw [← hSd] at h1 h2 hS
  rw [← hrd] at h1 h2
  have H1 := Lib.hid h1; have H2 := Lib.hid h2
  clear h1 h2 hSd hrd hb
  by_cases hk1 : 1000 < k
  case' pos =>
    have hk2 : ¬ k ≤ 65536 := by omega
    clear hk
    go_enter Tryz.func3, Tryz.ntmps3
    go_wp2_with fail
  case' neg =>
    clear hk
    go_enter Tryz.func3, Tryz.ntmps3
    go_wp2_with fail
  all_goals
    refine H1.out.mono ?_
    intro e1 w1 hN1
    obtain ⟨A1, c1, rfl, _, _, r1, hb1⟩ := hN1.opened
    have hr1 := hr.next hb1
    clear hN1
    go_wp2_with fail
    refine (H2.out w1 hr1).mono ?_
    intro e2 w2 hN2
    obtain ⟨A2, c2, rfl, _, _, r2, hb2⟩ := hN2.opened
    have r12 := r1.next hb2
    have hb02 := hb1.trans (hb2.mono hb1.size)
    clear hN2 hr1 r1 hb1 hb2 H1 H2
    go_wp2_with fail
    refine (sameZ_true A1 A2 S.length c1 c2 S w2 r12 r2 (by omega)).mono ?_
    rintro e w3 ⟨rfl, hd3⟩
    have hb03 := hd3.below hb02
    clear r12 r2 hb02 hd3
    go_wp2_with fail
    refine (awake_any w3).mono ?_
    rintro e w4 ⟨rfl, hb4⟩
    go_wp2_with fail
    go_ret
    exact ⟨rfl, hb03.trans (hb4.mono hb03.size)⟩
theorem gets_any (A : Option Addr) (n c : Nat) (k : Int) (b : List Nat) (w : World) (hr : Reads w w.heap.size 1 A n (bs b)) (hb : ∀ x ∈ b, x < 256) (hnc : n ≤ c) (hmet : Met w) :
    Calls Tryz.prog 3 #[.slice A n c, .int .i64 k] w fun e w' => e = .returned (.bool true) ∧ Below w.heap.size w w' := by
  by_cases h : 500 < n ∨ 1000 < k ∧ k ≤ 65536
  · exact gets_else A n c k w h
  · exact gets_main A n c k b w hr hb hnc hmet (fun h1 => h (.inl h1)) (by omega)
end Go.Proofs.YtppeagjklndidaaGreatDoor
