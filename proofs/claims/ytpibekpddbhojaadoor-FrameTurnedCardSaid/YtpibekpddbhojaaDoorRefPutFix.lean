/- The document's answer for a fixed number that is put. -/
import Derived.Test.YtpibekpddbhojaaDoorPut
namespace Go.Proofs.YtpibekpddbhojaaDoor
open Go.RowKit
set_option linter.unusedVariables false
set_option maxRecDepth 100000

theorem own_new (w : World) (cs : Array Value) (n : Nat) (t : TypeId) (xs : List Value) (hm : n ≤ maxLen) (hs : cs.size = n) (hx : cs.toList = xs) :
    (w.alloc (.cells cs t)).ownsRow w.heap.size t 1 (.slice (some ⟨w.heap.size, 0, none⟩) n n) n xs := by
  subst hx
  exact ⟨by simp [hs], .inr ⟨w.heap.size, n, cs, rfl, Nat.le_refl _, heap_alloc_new w _, Nat.le_refl _, hm, by omega, by rw [Nat.mul_one, ← hs, ← Array.length_toList, List.take_length]⟩⟩

theorem fx_split (k j v : Nat) : fx (k + j) v = fx k v ++ fx j (v / 256 ^ k) := by
  induction k generalizing v with
  | zero => simp [fx]
  | succ k ih =>
    rw [show k + 1 + j = (k + j) + 1 by omega]
    simp only [fx, List.cons_append]
    rw [ih (v / 256), Nat.div_div_eq_div_mul, Nat.pow_succ, Nat.mul_comm 256]
theorem fx_snoc (k v : Nat) : fx (k + 1) v = fx k v ++ [v / 256 ^ k % 256] := by rw [fx_split]; rfl

set_option maxHeartbeats 400000 in
theorem refFix_any (v : Nat) (s : Int) (w : World) (hv : v < 18446744073709551616) (hs : s ≤ 9223372036854775807) : Calls Tryd.prog 22 #[.int .u64 (v : Int), .int .i64 s] w (New w (bs (fx (fixSize s) v)) (fixSize s)) := by
  obtain ⟨i0, hi0, hz0, hz1, hz2⟩ := info_parts info_u8
  have hS : fixSize s ≤ 8 := by unfold fixSize; omega
  go_enter Tryd.func22, Tryd.ntmps22
  go_wp2_with fail
  go_loopw [0, 5, 6] (fun v1 out i wr => ∃ (k q : Nat), k ≤ fixSize s ∧ i = .int .i64 (k : Int) ∧ v1 = .int .u64 (q : Int) ∧ Hid (q = v / 256 ^ k) ∧ q < 18446744073709551616 ∧ wr.ownsRow w.heap.size 5 1 out k (bs (fx k v)) ∧ Below w.heap.size w wr)
    (fun _ _ i _ => 8 - (intOf i).toNat)
  case atStart => exact ⟨0, v, by omega, rfl, rfl, Lib.hid (by simp), hv, World.ownsRow_nil _ _ _ _, Below.refl _ _⟩
  case round =>
    obtain ⟨k, q, hk, rfl, rfl, hq, hq64, hown, hb⟩ := hrel
    have hsz := hb.size
    by_cases hlt : k < fixSize s
    · have h1 : (k : Int) < s := by unfold fixSize at hlt; omega
      have h2 : k < 8 := by omega
      go_wp2_with (at_builtin
                   refine wpList_append_any _ rfl (.tmp 16) (.tmp 20) _ rfl w.heap.size 5 i0 _ 1 1 Tryd.underlying22 hi0 hz0 hz1 hz2 rfl (by omega) u5 k (bs (fx k v)) rfl
                     (hown.alloc _) (wr.heap.size + 1) (some ⟨wr.heap.size, 0, none⟩) 1 1 [.int .u8 ((q : Int) % 256)] rfl (Reads.new wr _ _) (one_int _ _) (by unfold maxLen; omega) (by omega) (by simp; omega) ?_
                   intro v2 w2 hown2 hg2 hat2)
      have hq' := hq.out
      rw [show bs (fx k v) ++ [Value.int .u8 ((q : Int) % 256)] = bs (fx (k + 1) v) by rw [fx_snoc, bs_append, ← hq']; rfl] at hown2
      refine ⟨⟨k + 1, q / 256, by omega, by go_num, rfl, Lib.hid (by rw [hq', Nat.div_div_eq_div_mul, Nat.pow_succ]), by omega, hown2, below_app hb hown hsz hg2⟩, by simp [intOf]; omega⟩
    · have hk' : k = fixSize s := by omega
      have hout : ¬ ((k : Int) < s ∧ k < 8) := by unfold fixSize at hk'; omega
      have Hk := Lib.hid hk'
      clear hk'
      by_cases h1 : (k : Int) < s
      · have h2 : ¬ k < 8 := fun h => hout ⟨h1, h⟩
        clear hout
        go_wp2_with fail
        go_ret
        rw [← Hk.out]
        exact ⟨_, rfl, hown, hb⟩
      · clear hout
        go_wp2_with fail
        go_ret
        rw [← Hk.out]
        exact ⟨_, rfl, hown, hb⟩
end Go.Proofs.YtpibekpddbhojaaDoor
