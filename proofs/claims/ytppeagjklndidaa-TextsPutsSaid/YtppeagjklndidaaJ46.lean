/- Texts joined: TxSame TxGreat. -/
import Derived.Deep.QuietTactic
import Derived.BigQuiet
import Derived.Test.YtppeagjklndidaaJ3
import Derived.Test.YtppeagjklndidaaTxPlain
/- Contract of the statements' own Same over texts (layer 13's): it answers true of the same texts; nothing changes. -/
namespace Go.Proofs.Ytppeagjklndidaa
open Go.RowKit
set_option linter.unusedVariables false
set_option linter.unusedSimpArgs false
set_option maxRecDepth 100000

set_option maxHeartbeats 400000 in
theorem sameT_true (A A' : Option Addr) (n c c' : Nat) (l : List (List UInt8)) (w : World) (h1 : Reads w w.heap.size 1 A n (ts l)) (h2 : Reads w w.heap.size 1 A' n (ts l)) (hn : n ≤ 140737488355328) :
    Calls Try.prog 19 #[.slice A n c, .slice A' n c'] w fun e w' => e = .returned (.bool true) ∧ Drawn w w' := by
  go_enter Try.func19, Try.ntmps19
  go_wp2_with fail
  go_loopw [5] (fun i wr => ∃ k : Nat, k ≤ n ∧ i = .int .i64 (k : Int) ∧ ∃ q, wr = w.drewN q) (fun i _ => n - (intOf i).toNat)
  case atStart => exact ⟨0, Nat.zero_le _, rfl, 0, rfl⟩
  case round =>
    obtain ⟨k, hk, rfl, q, rfl⟩ := hrel
    by_cases hlt : k < n
    · obtain ⟨ad, u, rfl, _, hu, hc⟩ := h1.at_ hlt
      obtain ⟨ad', u', rfl, _, hu', hc'⟩ := h2.at_ hlt
      obtain ⟨b, hb, rfl⟩ := ts_at hu
      obtain ⟨b', hb', rfl⟩ := ts_at hu'
      obtain rfl : b = b' := by rw [hb] at hb'; exact Option.some.inj hb'
      have q1 : (b == b) = true := by simp
      clear hb hb' hu hu'
      go_wp2_with fail
      go_quiet (fail)
      go_wp2_with fail
      exact ⟨⟨k + 1, by omega, by go_num, _, rfl⟩, by simp [intOf]; omega⟩
    · go_wp2_with fail
      go_ret
      exact ⟨rfl, _, rfl⟩
end Go.Proofs.Ytppeagjklndidaa

/- Contract of the statements' own Great over texts: are there more, or longer ones, than are looked at? Nothing changes. -/
namespace Go.Proofs.Ytppeagjklndidaa
open Go.RowKit
set_option linter.unusedVariables false
set_option linter.unusedSimpArgs false
set_option maxRecDepth 100000

/-- More than 'm', or one of the first 'm' is longer than 'q'. -/
def grB (l : List Tx) (m q : Nat) : Bool := decide (m < l.length) || (l.take m).any fun s => decide (q < s.length)
theorem grB_false {l : List Tx} {m q : Nat} (h : grB l m q = false) : l.length ≤ m ∧ ∀ s ∈ l, s.length ≤ q := by
  unfold grB at h
  rw [Bool.or_eq_false_iff] at h
  obtain ⟨h1, h2⟩ := h
  have h3 : l.length ≤ m := by simpa using h1
  rw [List.take_of_length_le h3] at h2
  refine ⟨h3, fun s hs => ?_⟩
  have := List.any_eq_false.1 h2 s hs
  simpa using this
set_option maxHeartbeats 400000 in
theorem great_any (A : Option Addr) (n c m q : Nat) (l : List Tx) (w : World) (hr : Reads w w.heap.size 1 A n (ts l)) (hm : m ≤ 1000) (hq : q ≤ 1000) (g : Bool) (hg : g = grB l m q) :
    Calls Try.prog 15 #[.slice A n c, .int .i64 (m : Int), .int .i64 (q : Int)] w fun e w' => e = .returned (.bool g) ∧ w = w' := by
  have e1 : l.length = n := by have := hr.1; rw [ts_length] at this; omega
  have HE : Hid (l.length = n) := Lib.hid e1
  have HG := Lib.hid hg
  clear e1 hg
  go_enter Try.func15, Try.ntmps15
  go_wp2_with fail
  go_loop [7] (fun i => ∃ k : Nat, k ≤ n ∧ k ≤ m ∧ i = .int .i64 (k : Int) ∧ Hid (∀ s ∈ l.take k, s.length ≤ q)) (fun i => n - (intOf i).toNat)
  case atStart => exact ⟨0, Nat.zero_le _, Nat.zero_le _, rfl, Lib.hid (by simp)⟩
  case round =>
    obtain ⟨k, hk, hkm, rfl, HA⟩ := hrel
    have hend : ¬ (k < n ∧ k < m) → Hid (g = decide (m < n)) := fun h => Lib.hid (by
      rw [HG.out]
      unfold grB
      rw [HE.out]
      by_cases h1 : m < n
      · simp [h1]
      · have h2 : ((l.take m).any fun s => decide (q < s.length)) = false := by
          rw [List.any_eq_false]
          intro s hs
          have hkn : n ≤ k := by omega
          have := HA.out s (by
            rw [List.take_of_length_le (by rw [HE.out]; exact hkn)]
            exact List.mem_of_mem_take hs)
          simpa using this
        rw [h2]; simp)
    by_cases hlt : k < n
    · by_cases hltm : k < m
      · obtain ⟨ad, u, rfl, _, hu, hc⟩ := hr.at_ hlt
        obtain ⟨z, hz, rfl⟩ := ts_at hu
        have hzs := size_enc z
        by_cases hzl : q < z.length
        · have HR : Hid (g = true) := Lib.hid (by
            rw [HG.out]
            unfold grB
            rw [Bool.or_eq_true]
            refine .inr (List.any_eq_true.2 ⟨z, ?_, by simp [hzl]⟩)
            rw [List.mem_take_iff_getElem]
            obtain ⟨h1, h2⟩ := List.getElem?_eq_some_iff.1 hz
            exact ⟨k, by omega, h2⟩)
          clear hu hz hend
          go_wp2_with fail
          go_ret
          exact ⟨by rw [HR.out]; rfl, rfl⟩
        · have HA2 : Hid (∀ s ∈ l.take (k + 1), s.length ≤ q) := Lib.hid (by
            rw [take_snoc hz]
            intro s hs
            rcases List.mem_append.1 hs with hs | hs
            · exact HA.out s hs
            · rw [List.mem_singleton] at hs; subst hs; omega)
          clear hu hz hend
          go_wp2_with fail
          go_round
          case rel => exact ⟨k + 1, by omega, by omega, by go_num, HA2⟩
          case measure => simp [intOf]; omega
      · have HR := hend (fun h => hltm h.2)
        clear hend
        by_cases hmn : m < n
        · have d1 : decide (m < n) = true := by simp [hmn]
          go_wp2_with fail
          go_ret
          exact ⟨by rw [HR.out, d1]; rfl, rfl⟩
        · omega
    · have HR := hend (fun h => hlt h.1)
      clear hend
      by_cases hmn : m < n
      · omega
      · have d1 : decide (m < n) = false := by simp; omega
        go_wp2_with fail
        go_ret
        exact ⟨by rw [HR.out, d1]; rfl, rfl⟩
end Go.Proofs.Ytppeagjklndidaa
