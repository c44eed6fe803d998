/- Contract of package bits' Pack where it goes well. -/
import Derived.Test.YtppeagjklndidaaPack
namespace Go.Proofs.Ytppeagjklndidaa
open Go.RowKit
set_option linter.unusedVariables false
set_option linter.unusedSimpArgs false
set_option maxRecDepth 100000

theorem packE_ok (l : List Nat) (w : Nat) (hl : l.length ≤ 65536) (hw : w ≤ 64) (h : wd l ≤ w) : packE l (w : Int) = 0 ∧ packS l (w : Int) = packB w l := by
  have hz : szI (l.length : Int) (w : Int) = (sz l.length w : Int) := by unfold szI; rw [if_pos (by omega)]; simp
  have hE : packE l (w : Int) = 0 := by unfold packE; rw [hz, if_neg (by omega), if_neg (by omega)]
  exact ⟨hE, by unfold packS; rw [if_pos hE]; simp⟩
/-- Pack, where it goes well. -/
theorem pack_ok (A : Option Addr) (n c : Nat) (l : List Nat) (kI : Int) (k : Nat) (hkI : kI = (k : Int)) (w : World) (hr : Reads w w.heap.size 1 A n (us l)) (hl : ∀ a ∈ l, a < 18446744073709551616) (hn : n ≤ 65536) (hk : k ≤ 64) (hd : wd l ≤ k) :
    Calls Try.prog 43 #[.slice A n c, .int .i64 kI] w (NewE w (packB k l) 0) := by
  subst hkI
  have e1 : l.length = n := by have := hr.1; rw [us_length] at this; omega
  have h := pack_any A n c l (k : Int) w hr hl (by omega) (by omega)
  obtain ⟨h1, h2⟩ := packE_ok l k (by omega) hk hd
  rwa [h1, h2] at h
end Go.Proofs.Ytppeagjklndidaa
