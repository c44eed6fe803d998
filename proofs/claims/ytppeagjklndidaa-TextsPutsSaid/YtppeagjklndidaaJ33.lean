/- Texts joined: TxRefPlace TxSlice. -/
import Derived.BigQuiet
import Derived.Deep.QuietTactic
import Derived.Test.YtppeagjklndidaaJ3
import Derived.Test.YtppeagjklndidaaTxPlain
import Derived.Test.YtppeagjklndidaaJ14
/- Contract of the document's Place: where a text stands among others, or would; and whether it does. -/
namespace Go.Proofs.Ytppeagjklndidaa
open Go.RowKit
set_option linter.unusedVariables false
set_option linter.unusedSimpArgs false
set_option maxRecDepth 100000

/-- It stands there. -/
def isT (L : List Tx) (s : Tx) : Bool := decide (L[whT L s]? = some s)
set_option maxHeartbeats 1000000 in
theorem refPlace_any (A : Option Addr) (n c : Nat) (L : List Tx) (s : Tx) (w : World) (hr : Reads w w.heap.size 1 A n (ts L)) (hn : n ≤ 140737488355328) :
    Calls Try.prog 22 #[.slice A n c, .string ⟨s.toArray⟩] w fun e w' => e = .returned (.tuple #[.int .i64 (whT L s : Int), .bool (isT L s)]) ∧ Drawn w w' := by
  have e1 : L.length = n := by have := hr.1; rw [ts_length] at this; omega
  have HE : Hid (L.length = n) := Lib.hid e1
  clear e1
  go_enter Try.func22, Try.ntmps22
  go_wp2_with fail
  go_loop [6] (fun i => ∃ k : Nat, k ≤ n ∧ i = .int .i64 (k : Int) ∧ Hid (∀ (j : Nat) (y : Tx), j < k → L[j]? = some y → tlt y s)) (fun i => n - (intOf i).toNat)
  case atStart => exact ⟨0, Nat.zero_le _, rfl, Lib.hid (fun j y h => absurd h (by omega))⟩
  case round =>
    obtain ⟨k, hk, rfl, HA⟩ := hrel
    by_cases hlt : k < n
    · obtain ⟨ad, u, rfl, _, hu, hc⟩ := hr.at_ hlt
      obtain ⟨y, hy, rfl⟩ := ts_at hu
      by_cases hys : tlt y s
      · have q1 := less_of hys
        have HA2 : Hid (∀ (j : Nat) (y : Tx), j < k + 1 → L[j]? = some y → tlt y s) := Lib.hid fun j x hj hx => by
          by_cases h : j = k
          · subst h; rw [hy] at hx; injection hx with hx; subst hx; exact hys
          · exact HA.out j x (by omega) hx
        clear hu hy hys
        go_wp2_with fail
        go_round
        case rel => exact ⟨k + 1, by omega, by go_num, HA2⟩
        case measure => simp [intOf]; omega
      · have q1 := less_not hys
        have HW : Hid (whT L s = k) := Lib.hid (whT_of (by rw [HE.out]; exact hk) HA.out (fun x hx => by rw [hy] at hx; injection hx with hx; subst hx; exact hys))
        have HI : Hid (isT L s = (y == s)) := Lib.hid (by
          unfold isT
          rw [HW.out, hy]
          by_cases h : y = s
          · simp [h]
          · simp [h])
        clear hu hy hys
        go_wp2_with fail
        go_quiet (fail)
        go_wp2_with fail
        go_ret2
        exact ⟨by rw [HW.out, HI.out]; rfl, Drawn.one _ _⟩
    · obtain rfl : k = n := by omega
      have HW : Hid (whT L s = k) := Lib.hid (whT_of (by rw [HE.out]; exact hk) HA.out (fun x hx => by have := (List.getElem?_eq_some_iff.1 hx).1; have := HE.out; omega))
      have HI : Hid (isT L s = false) := Lib.hid (by
        unfold isT
        rw [HW.out, List.getElem?_eq_none (by rw [HE.out]; exact Nat.le_refl _)]
        simp)
      have d1 : decide ((k : Int) < (k : Int)) = false := by simp
      go_wp2_with fail
      go_quiet (fail)
      go_wp2_with fail
      go_ret2
      exact ⟨by rw [HW.out, HI.out]; rfl, Drawn.one _ _⟩
end Go.Proofs.Ytppeagjklndidaa

/- Slices of a row of texts, whatever their address, over this program. No condition. -/
namespace Go.Proofs.Ytppeagjklndidaa
open Go.RowKit
set_option linter.unusedVariables false
set_option linter.unusedSimpArgs false
set_option maxRecDepth 100000

theorem add_zero_ (a : Addr) : a.add 0 = a := by unfold Addr.add; simp
theorem map_add_zero (A : Option Addr) : A.map (·.add 0) = A := by cases A <;> simp [add_zero_]
theorem elem_str : Try.prog.elem 35 = 9 := by kernel_rfl
theorem sizeOf_str (W : World) : (sizeOf 9).run Try.prog W = .ok 1 W := by
  obtain ⟨i0, hi0, hz0, hz1, hz2⟩ := info_parts info_str
  simp [sizeOf, typeInfo, hi0, hz1]
theorem slice_front (A : Option Addr) (n c p : Nat) (hp : p ≤ c) (W : World) : (Instr.sliceAt 35 (.slice A n c) none (some (.int .i64 (p : Int))) none).run Try.prog W = .ok (.slice A p c) W := by
  rw [run_sliceAt_slice W 35 _ _ _ _ (by rw [elem_str]; exact Try.underlying35), run_slice_h W 35 A n c (by rw [elem_str]; exact Try.underlying35) .i64 (p : Int) (by omega) (by omega), elem_str, sizeOf_str]
  have h : (if c = 0 then A else A.map (·.add 0)) = A := by rw [map_add_zero]; simp
  simp [Result.andThen, sliced, map_add_zero]
theorem slice_rest (A : Option Addr) (n c p : Nat) (hp : p ≤ n) (W : World) : (Instr.sliceAt 35 (.slice A n c) (some (.int .i64 (p : Int))) none none).run Try.prog W = .ok (.slice (if c = p then A else A.map (·.add p)) (n - p) (c - p)) W := by
  rw [run_sliceAt_slice W 35 _ _ _ _ (by rw [elem_str]; exact Try.underlying35), run_slice_l W 35 A n c (by rw [elem_str]; exact Try.underlying35) .i64 (p : Int) (by omega) (by omega), elem_str, sizeOf_str]
  simp [Result.andThen, sliced]
end Go.Proofs.Ytppeagjklndidaa
