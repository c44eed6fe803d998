/- The walk of the statement BitsUnpacks: any bytes are unpacked, as any count of any width, as the document says, or refused. -/
import Derived.Test.YtfbapgoecmmepaaRefUnpack
namespace Go.Proofs.Ytfbapgoecmmepaa
open Go.RowKit
set_option linter.unusedVariables false
set_option maxRecDepth 100000

theorem unpackS_length (b : List Nat) (n wi : Int) : (unpackS b n wi).length ≤ 65536 := by
  unfold unpackS
  by_cases h : unpackE b n wi = 0
  · rw [if_pos h, dg_length]
    obtain ⟨h1, h2, _⟩ := unpackE_0 h
    omega
  · rw [if_neg h]; simp
theorem unpacks_big (A : Option Addr) (m c : Nat) (n wi : Int) (w : World) (h : 500 < m ∨ (1000 < n ∧ n ≤ 65536)) :
    Calls Try.prog 4 #[.slice A m c, .int .i64 n, .int .i64 wi] w fun e w' => e = .returned (.bool true) ∧ Below w.heap.size w w' := by
  by_cases h1 : 500 < m
  · clear h
    go_enter Try.func4, Try.ntmps4
    go_wp2_with fail
    refine (awake_any w).mono ?_
    rintro e w8 ⟨rfl, hb8⟩
    go_wp2_with fail
    go_ret
    exact ⟨rfl, hb8⟩
  · have h2 : 1000 < n := by omega
    have h3 : n ≤ 65536 := by omega
    clear h
    go_enter Try.func4, Try.ntmps4
    go_wp2_with fail
    refine (awake_any w).mono ?_
    rintro e w8 ⟨rfl, hb8⟩
    go_wp2_with fail
    go_ret
    exact ⟨rfl, hb8⟩
set_option maxHeartbeats 1000000 in
theorem unpacks_small (A : Option Addr) (m c : Nat) (n wi : Int) (b : List Nat) (w : World) (h1 : Reads w w.heap.size 1 A m (bs b)) (hb : ∀ a ∈ b, a < 256) (hm : m ≤ 500) (hn2 : ¬ (1000 < n ∧ n ≤ 65536)) (hn : -9223372036854775808 ≤ n ∧ n ≤ 9223372036854775807) (hw : -9223372036854775808 ≤ wi ∧ wi ≤ 9223372036854775807) :
    Calls Try.prog 4 #[.slice A m c, .int .i64 n, .int .i64 wi] w fun e w' => e = .returned (.bool true) ∧ Below w.heap.size w w' := by
  have c1 := unpack_any A m c b n wi w h1 hb (by omega) hn hw
  have c2 := fun W h => refUnpack_any A m c b n wi W h hb (by omega) hn hw
  have hss := unpackS_length b n wi
  generalize unpackE b n wi = ee at c1 c2
  generalize unpackS b n wi = ss at c1 c2 hss
  by_cases hg : 1000 < n
  case' pos => have hg2 : 65536 < n := by omega
  all_goals
    clear hn2
    go_enter Try.func4, Try.ntmps4
    go_wp2_with fail
    refine c1.mono ?_
    clear c1
    rintro e w1 ⟨v1, rfl, hown1, hb1⟩
    obtain ⟨B1, d1, rfl, _, hm1, r1⟩ := own_slice hown1
    have hz1 := hb1.size
    have c3 := c2 w1 ((h1.below hb1).more hz1)
    clear c2
    go_wp2_with fail
    refine c3.mono ?_
    clear c3
    rintro e w2 ⟨v2, rfl, hown2, hb2⟩
    obtain ⟨B2, d2, rfl, _, _, r2⟩ := own_slice hown2
    have hz2 := hb2.size
    have hb02 : Below w.heap.size w w2 := hb1.trans (hb2.mono hz1)
    go_wp2_with fail
    refine (same64_true B1 B2 ss.length d1 ss.length d2 ss w2 ((r1.below hb2).more hz2) r2 (by omega)).mono ?_
    rintro e w3 ⟨rfl, hd3⟩
    have hb03 := hd3.below hb02
    go_wp2_with fail
    refine (awake_any w3).mono ?_
    rintro e w8 ⟨rfl, hb8⟩
    go_wp2_with fail
    go_ret
    exact ⟨rfl, hb03.trans (hb8.mono hb03.size)⟩
end Go.Proofs.Ytfbapgoecmmepaa
