/- Contracts of package num's functions: what they answer of which numbers and bytes, in new memory; nothing that was there changes. -/
import Derived.Test.YtieknhhhcjdbnaaDoorJ2
namespace Go.Proofs.YtieknhhhcjdbnaaDoor
open Go.RowKit
set_option linter.unusedVariables false
set_option linter.unusedSimpArgs false
set_option maxRecDepth 100000

set_option maxHeartbeats 400000 in
theorem putVar_any (A : Option Addr) (n c v : Nat) (xs : List Value) (w : World) (hv : v < 18446744073709551616) (hr : Reads w w.heap.size 1 A n xs) (h1 : ∀ u ∈ xs, u.oneCell' = true) (hb : n ≤ 140737488355300) :
    Calls Tryd.prog 45 #[.slice A n c, .int .u64 (v : Int)] w (New w (xs ++ bs (vb v)) (n + (vb v).length)) := by
  obtain ⟨i0, hi0, hz0, hz1, hz2⟩ := info_parts info_u8
  go_enter Tryd.func45, Tryd.ntmps45
  go_wp2_with (go_at_call 62; refine (copied_any A n c 10 xs w hr h1 (by omega)).mono ?_; rintro e w1 ⟨u0, rfl, hown0, hb0⟩)
  go_loopw [5, 1] (fun out v1 wr => ∃ (pre : List Nat) (v' : Nat), pre ++ vb v' = vb v ∧ v' < 18446744073709551616 ∧ v1 = .int .u64 (v' : Int) ∧ wr.ownsRow w.heap.size 5 1 out (n + pre.length) (xs ++ bs pre) ∧ Below w.heap.size w wr)
    (fun _ v1 _ => (intOf v1).toNat)
  case atStart => exact ⟨[], v, rfl, hv, rfl, by simpa [bs] using hown0, hb0⟩
  case round =>
    obtain ⟨pre, v', hpre, hv', rfl, hown, hbl⟩ := hrel
    have hpl := congrArg List.length hpre
    have hl := vb_length v
    simp only [List.length_append] at hpl
    have hplen : pre.length ≤ 10 := by omega
    have Hpre := Lib.hid hpre
    clear hpre hpl
    have hsz := hbl.size
    by_cases hlt : 127 < v'
    · go_wp2_with (at_builtin
                   refine wpList_append_any _ rfl (.tmp 12) (.tmp 16) _ rfl w.heap.size 5 i0 _ 1 1 Tryd.underlying22 hi0 hz0 hz1 hz2 rfl (by omega) u5 (n + pre.length) (xs ++ bs pre) rfl
                     (hown.alloc _) (wr.heap.size + 1) (some ⟨wr.heap.size, 0, none⟩) 1 1 [.int .u8 (bits .or .u8 ((v' : Int) % 256) 128)] rfl (Reads.new wr _ _) (one_int _ _) (by unfold maxLen; omega) (by omega) (by simp; omega) ?_
                   intro v2 w2 hown2 hg2 hat2)
      have hbit : bits .or .u8 ((v' : Int) % 256) 128 = ((128 + v' % 128 : Nat) : Int) := by
        rw [show ((v' : Int) % 256) = ((v' % 256 : Nat) : Int) from rfl, show (128 : Int) = ((128 : Nat) : Int) from rfl, u8_or_nat _ _ (by omega) (by omega), bit7 _ (by omega)]
        congr 2; omega
      rw [bs_snoc xs pre _ _ hbit] at hown2
      have hvb := vb_big v' (by omega) hv'
      refine ⟨⟨pre ++ [128 + v' % 128], v' / 128, ?_, by omega, rfl, by simpa [Nat.add_assoc] using hown2, below_app hbl hown hsz hg2⟩, ?_⟩
      · rw [List.append_assoc, ← Hpre.out, hvb]; rfl
      · simp [intOf]; omega
    · go_wp2_with (at_builtin
                   refine wpList_append_any _ rfl (.tmp 18) (.tmp 21) _ rfl w.heap.size 5 i0 _ 1 1 Tryd.underlying22 hi0 hz0 hz1 hz2 rfl (by omega) u5 (n + pre.length) (xs ++ bs pre) rfl
                     (hown.alloc _) (wr.heap.size + 1) (some ⟨wr.heap.size, 0, none⟩) 1 1 [.int .u8 (v' : Int)] rfl (Reads.new wr _ _) (one_int _ _) (by unfold maxLen; omega) (by omega) (by simp; omega) ?_
                   intro v2 w2 hown2 hg2 hat2)
      go_ret
      have hvb := vb_small v' (by omega)
      have hpre := Hpre.out
      rw [hvb] at hpre
      rw [bs_snoc xs pre v' _ rfl, hpre] at hown2
      refine ⟨v2, rfl, ?_, below_app hbl hown hsz hg2⟩
      rw [← hpre] at hown2 ⊢
      simpa [Nat.add_assoc] using hown2
end Go.Proofs.YtieknhhhcjdbnaaDoor
