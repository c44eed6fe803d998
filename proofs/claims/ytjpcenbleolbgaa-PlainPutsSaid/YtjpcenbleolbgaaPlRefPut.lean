/- The document's plain form. -/
import Derived.Test.YtjpcenbleolbgaaPlPlain
import Derived.Test.YtjpcenbleolbgaaRefPVar
import Derived.Test.YtjpcenbleolbgaaRefZig
import Derived.Test.YtjpcenbleolbgaaInts
import Derived.Test.YtjpcenbleolbgaaOpened
namespace Go.Proofs.Ytjpcenbleolbgaa
open Go.RowKit
set_option linter.unusedVariables false
set_option linter.unusedSimpArgs false
set_option maxRecDepth 100000

theorem refZigN_any (z : Int) (w : World) (h : In64 z) : Calls Try.prog 13 #[.int .i64 z] w fun e w' => e = .returned (.int .u64 (zg z : Int)) ∧ w = w' := by
  rw [← (zg_int h).1]; exact refZig_any z w h.1 h.2
set_option maxHeartbeats 1000000 in
theorem refPlPut_any (A : Option Addr) (n c : Nat) (l : List Int) (w : World) (hr : Reads w w.heap.size 1 A n (zs l)) (hl : ∀ z ∈ l, In64 z) (hn : n ≤ 65536) :
    Calls Try.prog 7 #[.slice A n c] w (New w (bs (pl l)) (pl l).length) := by
  obtain ⟨i0, hi0, hz0, hz1, hz2⟩ := info_parts info_u8
  have e1 : l.length = n := by have := hr.1; rw [zs_length] at this; omega
  have E1 := Lib.hid e1; have HLL := Lib.hid hl
  clear e1 hl
  go_enter Try.func7, Try.ntmps7
  go_wp2_with fail
  go_loopw [3, 4] (fun out i wr => ∃ k : Nat, k ≤ n ∧ i = .int .i64 (k : Int) ∧ wr.ownsRow w.heap.size 5 1 out (pl (l.take k)).length (bs (pl (l.take k))) ∧ Below w.heap.size w wr) (fun _ i _ => n - (intOf i).toNat)
  case atStart => exact ⟨0, by omega, rfl, own_nil _ _ _ _, Below.refl _ _⟩
  case round =>
    obtain ⟨k, hk, rfl, hown, hb⟩ := hrel
    by_cases hlt : k < n
    · obtain ⟨ad, u, rfl, _, hu, hc⟩ := (hr.below hb).at_ hlt
      obtain ⟨z, hz, rfl⟩ := zs_at hu
      have hz64 := HLL.out z (List.mem_of_getElem? hz)
      have hzg := (zg_int hz64).2
      have hvl := vb_length (zg z)
      have hpk := pl_length (l.take k)
      have htk : (l.take k).length ≤ k := List.length_take_le _ _
      have HS := Lib.hid (pl_step hz)
      clear hu hz
      go_wp2_with fail
      refine (refZigN_any z wr hz64).mono ?_
      rintro e w' ⟨rfl, rfl⟩
      go_wp2_with fail
      refine (refVar_any (zg z) wr hzg).mono ?_
      intro e2 w2 hN2
      obtain ⟨A2, c2, rfl, _, hr2, hb2⟩ := hN2.opened
      clear hN2
      have hown2 := own_below hown hb2
      have hb02 := hb.trans (hb2.mono hb.size)
      go_wp2_with (at_builtin
                   refine wpList_append_any _ rfl (.tmp 11) (.tmp 17) _ rfl w.heap.size 5 i0 _ 1 1 Try.underlying24 hi0 hz0 hz1 hz2 rfl (by omega) u3 (pl (l.take k)).length (bs (pl (l.take k))) rfl
                     hown2 w2.heap.size A2 (vb (zg z)).length c2 (bs (vb (zg z))) rfl hr2 (bs_one _) (by unfold maxLen; omega) (by omega) hb02.size ?_
                   intro v3 w3 hown3 hg3 hat3)
      go_round
      case rel =>
        refine ⟨k + 1, by omega, by go_num, ?_, hb02.grown hg3 hb02.size (fun j hj => (hown2.lt j hj).1)⟩
        rw [HS.out, List.length_append, bs_append]
        exact hown3
      case measure => simp [intOf]; omega
    · go_wp2_with fail
      go_ret
      obtain rfl : k = n := by omega
      rw [List.take_of_length_le (by rw [E1.out]; omega)] at hown
      exact ⟨_, rfl, hown, hb⟩
end Go.Proofs.Ytjpcenbleolbgaa
