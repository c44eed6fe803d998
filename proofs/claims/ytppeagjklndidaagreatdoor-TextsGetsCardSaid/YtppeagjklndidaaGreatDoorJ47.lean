/- Texts joined: TxSame TextsGets. -/
import Derived.Deep.QuietTactic
import Derived.BigQuiet
import Derived.Test.YtppeagjklndidaaGreatDoorJ8
import Derived.Test.YtppeagjklndidaaGreatDoorJ20
import Derived.Test.YtppeagjklndidaaGreatDoorJ37
import Derived.Test.YtppeagjklndidaaGreatDoorTxRefGet
/- Contract of the statements' own Same over texts (layer 13's): it answers true of the same texts; nothing changes. -/
namespace Go.Proofs.YtppeagjklndidaaGreatDoor
open Go.RowKit
set_option linter.unusedVariables false
set_option linter.unusedSimpArgs false
set_option maxRecDepth 100000

set_option maxHeartbeats 400000 in
theorem sameT_true (A A' : Option Addr) (n c c' : Nat) (l : List (List UInt8)) (w : World) (h1 : Reads w w.heap.size 1 A n (ts l)) (h2 : Reads w w.heap.size 1 A' n (ts l)) (hn : n ≤ 140737488355328) :
    Calls Tryz.prog 12 #[.slice A n c, .slice A' n c'] w fun e w' => e = .returned (.bool true) ∧ Drawn w w' := by
  go_enter Tryz.func12, Tryz.ntmps12
  go_wp2_with fail
  go_loopw [5] (fun i wr => ∃ k : Nat, k ≤ n ∧ i = .int .i64 (k : Int) ∧ ∃ q, wr = w.drewN q) (fun i _ => n - (intOf i).toNat)
  case atStart => exact ⟨0, Nat.zero_le _, rfl, 0, rfl⟩
  case round =>
    obtain ⟨k, hk, rfl, q, rfl⟩ := hrel
    by_cases hlt : k < n
    · obtain ⟨ad, u, rfl, _, hu, hc⟩ := h1.at_ hlt
      obtain ⟨ad', u', rfl, _, hu', hc'⟩ := h2.at_ hlt
      obtain ⟨b, hb, rfl⟩ := ts_at hu
      obtain ⟨b', hb', rfl⟩ := ts_at hu'
      obtain rfl : b = b' := by rw [hb] at hb'; exact Option.some.inj hb'
      have q1 : (b == b) = true := by simp
      clear hb hb' hu hu'
      go_wp2_with fail
      go_quiet (fail)
      go_wp2_with fail
      exact ⟨⟨k + 1, by omega, by go_num, _, rfl⟩, by simp [intOf]; omega⟩
    · go_wp2_with fail
      go_ret
      exact ⟨rfl, _, rfl⟩
end Go.Proofs.YtppeagjklndidaaGreatDoor

/- The walk of the statement TextsGets: any bytes are as many texts as the document says, or none. -/
namespace Go.Proofs.YtppeagjklndidaaGreatDoor
open Go.RowKit
set_option linter.unusedVariables false
set_option linter.unusedSimpArgs false
set_option maxRecDepth 100000

theorem getsT_else (A : Option Addr) (n c : Nat) (k : Int) (w : World) (h : 800 < n ∨ 500 < k ∧ k ≤ 65536) :
    Calls Tryz.prog 4 #[.slice A n c, .int .i64 k] w fun e w' => e = .returned (.bool true) ∧ Below w.heap.size w w' := by
  by_cases h1 : 800 < n
  · clear h
    go_enter Tryz.func4, Tryz.ntmps4
    go_wp2_with fail
    refine (awakeT_any w).mono ?_
    rintro e w1 ⟨rfl, hb⟩
    go_wp2_with fail
    go_ret
    exact ⟨rfl, hb⟩
  · obtain ⟨h2, h3⟩ : 500 < k ∧ k ≤ 65536 := h.resolve_left h1
    clear h
    go_enter Tryz.func4, Tryz.ntmps4
    go_wp2_with fail
    refine (awakeT_any w).mono ?_
    rintro e w1 ⟨rfl, hb⟩
    go_wp2_with fail
    go_ret
    exact ⟨rfl, hb⟩
set_option maxHeartbeats 1000000 in
theorem getsT_main (A : Option Addr) (n c : Nat) (k : Int) (b : List Nat) (w : World) (hr : Reads w w.heap.size 1 A n (bs b)) (hb : ∀ x ∈ b, x < 256) (hnc : n ≤ c) (hmet : Met w) (hn : ¬ 800 < n) (hk : ¬ 500 < k ∨ ¬ k ≤ 65536) :
    Calls Tryz.prog 4 #[.slice A n c, .int .i64 k] w fun e w' => e = .returned (.bool true) ∧ Below w.heap.size w w' := by
  have hS := txG_length b k
  have h1 := txGet_any A n c k b w hr hb (by omega) hmet
  have h2 := fun (w1 : World) (hr1 : Reads w1 w1.heap.size 1 A n (bs b)) => refTxGet_any A n c k b w1 hr1 hb hnc (by omega)
  obtain ⟨S, hSd⟩ : ∃ S, S = txG b k := ⟨_, rfl⟩
  obtain ⟨r, hrd⟩ : ∃ r, r = txE b k := ⟨_, rfl⟩
  rw [← hSd] at h1 h2 hS
  rw [← hrd] at h1 h2
  have H1 := Lib.hid h1; have H2 := Lib.hid h2
  clear h1 h2 hSd hrd hb
  by_cases hk1 : 500 < k
  case' pos =>
    have hk2 : ¬ k ≤ 65536 := by omega
    clear hk
    go_enter Tryz.func4, Tryz.ntmps4
    go_wp2_with fail
  case' neg =>
    clear hk
    go_enter Tryz.func4, Tryz.ntmps4
    go_wp2_with fail
  all_goals
    refine H1.out.mono ?_
    intro e1 w1 hN1
    obtain ⟨A1, c1, rfl, _, _, r1, hb1⟩ := hN1.opened
    have hr1 := hr.next hb1
    clear hN1
    go_wp2_with fail
    refine (H2.out w1 hr1).mono ?_
    intro e2 w2 hN2
    obtain ⟨A2, c2, rfl, _, _, r2, hb2⟩ := hN2.opened
    have r12 := r1.next hb2
    have hb02 := hb1.trans (hb2.mono hb1.size)
    clear hN2 hr1 r1 hb1 hb2 H1 H2
    go_wp2_with fail
    refine (sameT_true A1 A2 S.length c1 c2 S w2 r12 r2 (by omega)).mono ?_
    rintro e w3 ⟨rfl, hd3⟩
    have hb03 := hd3.below hb02
    have q1 : (r == r) = true := by simp
    clear r12 r2 hb02 hd3
    go_wp2_with fail
    refine (awakeT_any w3).mono ?_
    rintro e w4 ⟨rfl, hb4⟩
    go_wp2_with fail
    go_ret
    exact ⟨rfl, hb03.trans (hb4.mono hb03.size)⟩
theorem getsT_any (A : Option Addr) (n c : Nat) (k : Int) (b : List Nat) (w : World) (hr : Reads w w.heap.size 1 A n (bs b)) (hb : ∀ x ∈ b, x < 256) (hnc : n ≤ c) (hmet : Met w) :
    Calls Tryz.prog 4 #[.slice A n c, .int .i64 k] w fun e w' => e = .returned (.bool true) ∧ Below w.heap.size w w' := by
  by_cases h : 800 < n ∨ 500 < k ∧ k ≤ 65536
  · exact getsT_else A n c k w h
  · exact getsT_main A n c k b w hr hb hnc hmet (by omega) (by omega)
end Go.Proofs.YtppeagjklndidaaGreatDoor
