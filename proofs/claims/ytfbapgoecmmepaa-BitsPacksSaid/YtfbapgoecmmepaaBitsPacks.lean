/- The walk of the statement BitsPacks: any numbers are packed in any width as the document says, or refused. -/
import Derived.Test.YtfbapgoecmmepaaRefPack
namespace Go.Proofs.Ytfbapgoecmmepaa
open Go.RowKit
set_option linter.unusedVariables false
set_option maxRecDepth 100000

theorem packs_big (A : Option Addr) (n c : Nat) (wi k : Int) (w : World) (h : 200 < n) :
    Calls Try.prog 3 #[.slice A n c, .int .i64 wi, .int .i64 k] w fun e w' => e = .returned (.bool true) ∧ Below w.heap.size w w' := by
  go_enter Try.func3, Try.ntmps3
  go_wp2_with fail
  refine (awake_any w).mono ?_
  rintro e w8 ⟨rfl, hb8⟩
  go_wp2_with fail
  go_ret
  exact ⟨rfl, hb8⟩
theorem packS_length (l : List Nat) (wi : Int) : (packS l wi).length ≤ 524289 := by
  unfold packS
  by_cases h : packE l wi = 0
  · rw [if_pos h, packB_length]
    obtain ⟨h1, h2, h3, _⟩ := packE_0 h
    have := sz_small l.length wi.toNat h1 (by omega)
    unfold sz; omega
  · rw [if_neg h]; simp
set_option maxHeartbeats 1000000 in
theorem packs_small (A : Option Addr) (n c : Nat) (wi k : Int) (l : List Nat) (w : World) (h1 : Reads w w.heap.size 1 A n (us l)) (hl : ∀ a ∈ l, a < 18446744073709551616) (hn : n ≤ 200) (hw : -9223372036854775808 ≤ wi ∧ wi ≤ 9223372036854775807) (hk : -9223372036854775808 ≤ k ∧ k ≤ 9223372036854775807) :
    Calls Try.prog 3 #[.slice A n c, .int .i64 wi, .int .i64 k] w fun e w' => e = .returned (.bool true) ∧ Below w.heap.size w w' := by
  have c1 := pack_any A n c l wi w h1 hl (by omega) hw
  have c2 := fun W h => refPack_any A n c l wi W h hl (by omega) hw
  have hss := packS_length l wi
  generalize packE l wi = ee at c1 c2
  generalize packS l wi = ss at c1 c2 hss
  go_enter Try.func3, Try.ntmps3
  go_wp2_with fail
  refine c1.mono ?_
  clear c1
  rintro e w1 ⟨v1, rfl, hown1, hb1⟩
  obtain ⟨B1, d1, rfl, _, hm1, r1⟩ := own_slice hown1
  have hz1 := hb1.size
  have c3 := c2 w1 ((h1.below hb1).more hz1)
  clear c2
  go_wp2_with fail
  refine c3.mono ?_
  clear c3
  rintro e w2 ⟨v2, rfl, hown2, hb2⟩
  obtain ⟨B2, d2, rfl, _, _, r2⟩ := own_slice hown2
  have hz2 := hb2.size
  have hb02 : Below w.heap.size w w2 := hb1.trans (hb2.mono hz1)
  go_wp2_with fail
  refine (same_true B1 B2 ss.length d1 ss.length d2 ss w2 ((r1.below hb2).more hz2) r2 (by omega)).mono ?_
  rintro e w3 ⟨rfl, hd3⟩
  have hb03 := hd3.below hb02
  have h3 := (h1.below hb03).more hb03.size
  go_wp2_with fail
  refine (width_any A n c l w3 h3 hl (by omega)).mono ?_
  rintro e w' ⟨rfl, rfl⟩
  go_wp2_with fail
  refine (refWidth_any A n c l w3 h3 hl (by omega)).mono ?_
  rintro e w' ⟨rfl, rfl⟩
  go_wp2_with fail
  refine (size_any k wi w3 hk hw).mono ?_
  rintro e w' ⟨rfl, rfl⟩
  go_wp2_with fail
  refine (refSize_any k wi w3 hk hw).mono ?_
  rintro e w' ⟨rfl, rfl⟩
  go_wp2_with fail
  refine (awake_any w3).mono ?_
  rintro e w8 ⟨rfl, hb8⟩
  go_wp2_with fail
  go_ret
  exact ⟨rfl, hb03.trans (hb8.mono hb03.size)⟩
end Go.Proofs.Ytfbapgoecmmepaa
