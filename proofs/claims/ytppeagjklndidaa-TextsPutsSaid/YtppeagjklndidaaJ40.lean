/- Texts joined: OwnNew RefPVar BitB. -/
import Derived.Test.YtppeagjklndidaaWords
import Derived.Test.YtppeagjklndidaaJ6
import Derived.Test.YtppeagjklndidaaJ3
import Derived.Test.YtppeagjklndidaaDigits
/- A row that was just made whole is the call's own. No program. -/
namespace Go.Proofs.Ytppeagjklndidaa
open Go.RowKit
set_option linter.unusedVariables false
set_option linter.unusedSimpArgs false
set_option maxRecDepth 100000

theorem own_new (w : World) (cs : Array Value) (n : Nat) (t : TypeId) (xs : List Value) (hm : n ≤ maxLen) (hs : cs.size = n) (hx : cs.toList = xs) :
    (w.alloc (.cells cs t)).ownsRow w.heap.size t 1 (.slice (some ⟨w.heap.size, 0, none⟩) n n) n xs := by
  subst hx
  exact ⟨by simp [hs], .inr ⟨w.heap.size, n, cs, rfl, Nat.le_refl _, heap_alloc_new w _, Nat.le_refl _, hm, by omega, by rw [Nat.mul_one, ← hs, ← Array.length_toList, List.take_length]⟩⟩

end Go.Proofs.Ytppeagjklndidaa

/- The document's answer for a short number that is put. -/
namespace Go.Proofs.Ytppeagjklndidaa
open Go.RowKit
set_option linter.unusedVariables false
set_option linter.unusedSimpArgs false
set_option maxRecDepth 100000

set_option maxHeartbeats 400000 in
theorem refVar_any (v : Nat) : ∀ (w : World), v < 18446744073709551616 → Calls Try.prog 27 #[.int .u64 (v : Int)] w (New w (bs (vb v)) (vb v).length) := by
  induction v using Nat.strongRecOn with
  | ind v ih =>
    intro w hv
    obtain ⟨i0, hi0, hz0, hz1, hz2⟩ := info_parts info_u8
    by_cases h : v < 128
    · clear ih
      have HV := Lib.hid (vb_small v h)
      go_enter Try.func27, Try.ntmps27
      go_wp2_with fail
      go_ret
      rw [HV.out]
      exact ⟨_, rfl, own_new w _ 1 _ _ (by unfold maxLen; omega) rfl (by simp [bs]), (Below.refl _ _).alloc (Nat.le_refl _) _⟩
    · have H := Lib.hid (ih (v / 128) (by omega)); clear ih
      have HV := Lib.hid (vb_big v h hv)
      have hl := vb_length (v / 128)
      have hown0 := own_new w #[.int .u8 (128 + (v : Int) % 128)] 1 5 (bs [128 + v % 128]) (by unfold maxLen; omega) rfl (by simp [bs])
      have Hown0 := Lib.hid hown0
      clear hown0
      go_enter Try.func27, Try.ntmps27
      go_wp2_with (first
        | (go_at_call 27; refine (H.out _ (by omega)).mono ?_; rintro e w1 ⟨v1, rfl, hown1, hb1⟩; obtain ⟨A1, c1, rfl, hc1, hc1', hr1⟩ := own_slice hown1)
        | (at_builtin
           refine wpList_append_any _ rfl (.tmp 12) (.tmp 15) _ rfl w.heap.size 5 i0 _ 1 1 Try.underlying24 hi0 hz0 hz1 hz2 rfl (by omega) (.slice (some ⟨w.heap.size, 0, none⟩) 1 1) 1 (bs [128 + v % 128]) rfl
             (own_below Hown0.out hb1) w1.heap.size A1 (vb (v / 128)).length c1 (bs (vb (v / 128))) rfl hr1 (bs_one _) (by unfold maxLen; omega) (by omega) (by have := hb1.size; simp at this; omega) ?_
           intro v2 w2 hown2 hg2 hat2))
      go_ret
      rw [HV.out]
      refine ⟨v2, rfl, ?_, ?_⟩
      · simpa [bs, Nat.add_comm] using hown2
      · exact (((Below.refl _ _).alloc (Nat.le_refl _) _).trans (hb1.mono (by simp))).grown hg2 (by have := hb1.size; simp at this; omega) (fun k hk => by simp [Value.ownBlock] at hk; omega)

end Go.Proofs.Ytppeagjklndidaa

/- Plain facts on a number's bits. No program. -/
namespace Go.Proofs.Ytppeagjklndidaa
open Go.RowKit
set_option linter.unusedVariables false
set_option linter.unusedSimpArgs false
set_option maxRecDepth 100000

def bitB (v k : Nat) : Bool := decide (v / 2 ^ k % 2 = 1)
theorem bitB_digit (w : Nat) (l : List Nat) (h : ∀ a ∈ l, a < 2 ^ w) (i k v : Nat) (hi : l[i]? = some v) (hk : k < w) : bitB v k = bitB (pk w l) (i * w + k) := by
  obtain ⟨hl, rfl⟩ := List.getElem?_eq_some_iff.1 hi
  unfold bitB
  rw [Nat.mul_comm i w, pk_bit w l h i k hl hk]
theorem bitB_val (V j : Nat) : V / 2 ^ j % 2 = if bitB V j = true then 1 else 0 := by
  unfold bitB
  by_cases h : V / 2 ^ j % 2 = 1
  · simp [h]
  · simp [h]; omega
end Go.Proofs.Ytppeagjklndidaa
