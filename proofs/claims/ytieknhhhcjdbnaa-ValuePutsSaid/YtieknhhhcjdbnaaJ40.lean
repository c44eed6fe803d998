/- Texts joined: VlPut RefPVar RefBlobP RefZig. -/
import Derived.Test.YtieknhhhcjdbnaaJ35
import Derived.Test.YtieknhhhcjdbnaaJ39
import Derived.Test.YtieknhhhcjdbnaaJ30
import Derived.Test.YtieknhhhcjdbnaaJ4
import Derived.Test.YtieknhhhcjdbnaaJ18
import Derived.Test.YtieknhhhcjdbnaaJ26
import Derived.Test.YtieknhhhcjdbnaaZigP
/- Contract of package value's Put: a value's form behind bytes, in new memory. -/
namespace Go.Proofs.Ytieknhhhcjdbnaa
open Go.RowKit
set_option linter.unusedVariables false
set_option linter.unusedSimpArgs false
set_option maxRecDepth 100000

set_option maxHeartbeats 1000000 in
theorem vlPut_any (A : Option Addr) (n c : Nat) (l : List Nat) (v : Vl) (w : World) (hr : Reads w w.heap.size 1 A n (bs l)) (hn : n ≤ 1000000000000) (hi : In64 v.2.1) (hq : v.2.2.length ≤ 1000000000000) :
    Calls Try.prog 17 #[.slice A n c, vW v] w (New w (bs (l ++ vB v)) (l ++ vB v).length) := by
  have hF := fun W => form_any v W hi (by omega)
  have hln : l.length = n := by have := hr.1; rw [bs_length] at this; omega
  have hlv : (vB v).length ≤ 2000000000000 := by
    unfold vB
    split
    · have := (vb_length (zg v.2.1)).2; simp; omega
    · split
      · have := blbT_length (s := v.2.2); simp; omega
      · simp
  obtain ⟨v0, v1, z⟩ := v
  have hv : vW (v0, v1, z) = .agg #[.int .i64 v0, .int .i64 v1, .string ⟨z.toArray⟩] := rfl
  rw [hv] at hF ⊢
  obtain ⟨L, hL⟩ : ∃ L, vB (v0, v1, z) = L := ⟨_, rfl⟩
  rw [hL] at hF hlv ⊢
  have HF := Lib.hid hF
  have HLN := Lib.hid hln
  have hB : Below w.heap.size w (w.alloc (.cells #[.int .i64 v0, .int .i64 v1, .string ⟨z.toArray⟩] 23)) := (Below.refl _ _).alloc (Nat.le_refl _) _
  have HB := Lib.hid hB
  clear hF hL hv hB hln hi hq
  go_enter Try.func17, Try.ntmps17
  go_wp2_with fail
  refine (HF.out _).mono ?_
  intro e w1 hN1
  obtain ⟨A1, c1, rfl, _, r1, hb1⟩ := hN1.opened
  have hb01 := HB.out.trans (hb1.mono HB.out.size)
  have hr1 := hr.next hb01
  have hL2 := two_parts w1 36 (.slice A n c) (.slice A1 L.length c1) l L ⟨A, c, by rw [HLN.out], by rw [HLN.out]; exact hr1⟩ ⟨A1, c1, rfl, r1⟩
  have hb02 := hb01.alloc hb01.size (.cells #[.slice A n c, .slice A1 L.length c1] 36)
  have HC := Lib.hid (concat_any (some ⟨w1.heap.size, 0, none⟩) 2 2 [l, L] _ hL2 rfl (by omega) (by simp; rw [HLN.out]; omega))
  have HB02 := Lib.hid hb02
  clear hN1 r1 hb1 hr1 hL2 hb02 hb01
  go_wp2_with fail
  refine HC.out.mono ?_
  rintro e w2 ⟨v2, rfl, hown2, hb2⟩
  go_wp2_with fail
  go_ret
  have hfl : [l, L].flatten = l ++ L := by simp
  rw [hfl] at hown2
  exact ⟨v2, rfl, own_base hown2 HB02.out.size, HB02.out.trans (hb2.mono HB02.out.size)⟩
end Go.Proofs.Ytieknhhhcjdbnaa

/- The document's answer for a short number that is put. -/
namespace Go.Proofs.Ytieknhhhcjdbnaa
open Go.RowKit
set_option linter.unusedVariables false
set_option linter.unusedSimpArgs false
set_option maxRecDepth 100000

set_option maxHeartbeats 400000 in
theorem refVar_any (v : Nat) : ∀ (w : World), v < 18446744073709551616 → Calls Try.prog 32 #[.int .u64 (v : Int)] w (New w (bs (vb v)) (vb v).length) := by
  induction v using Nat.strongRecOn with
  | ind v ih =>
    intro w hv
    obtain ⟨i0, hi0, hz0, hz1, hz2⟩ := info_parts info_u8
    by_cases h : v < 128
    · clear ih
      have HV := Lib.hid (vb_small v h)
      go_enter Try.func32, Try.ntmps32
      go_wp2_with fail
      go_ret
      rw [HV.out]
      exact ⟨_, rfl, own_new w _ 1 _ _ (by unfold maxLen; omega) rfl (by simp [bs]), (Below.refl _ _).alloc (Nat.le_refl _) _⟩
    · have H := Lib.hid (ih (v / 128) (by omega)); clear ih
      have HV := Lib.hid (vb_big v h hv)
      have hl := vb_length (v / 128)
      have hown0 := own_new w #[.int .u8 (128 + (v : Int) % 128)] 1 5 (bs [128 + v % 128]) (by unfold maxLen; omega) rfl (by simp [bs])
      have Hown0 := Lib.hid hown0
      clear hown0
      go_enter Try.func32, Try.ntmps32
      go_wp2_with (first
        | (go_at_call 32; refine (H.out _ (by omega)).mono ?_; rintro e w1 ⟨v1, rfl, hown1, hb1⟩; obtain ⟨A1, c1, rfl, hc1, hc1', hr1⟩ := own_slice hown1)
        | (at_builtin
           refine wpList_append_any _ rfl (.tmp 12) (.tmp 15) _ rfl w.heap.size 5 i0 _ 1 1 Try.underlying36 hi0 hz0 hz1 hz2 rfl (by omega) (.slice (some ⟨w.heap.size, 0, none⟩) 1 1) 1 (bs [128 + v % 128]) rfl
             (own_below Hown0.out hb1) w1.heap.size A1 (vb (v / 128)).length c1 (bs (vb (v / 128))) rfl hr1 (bs_one _) (by unfold maxLen; omega) (by omega) (by have := hb1.size; simp at this; omega) ?_
           intro v2 w2 hown2 hg2 hat2))
      go_ret
      rw [HV.out]
      refine ⟨v2, rfl, ?_, ?_⟩
      · simpa [bs, Nat.add_comm] using hown2
      · exact (((Below.refl _ _).alloc (Nat.le_refl _) _).trans (hb1.mono (by simp))).grown hg2 (by have := hb1.size; simp at this; omega) (fun k hk => by simp [Value.ownBlock] at hk; omega)

end Go.Proofs.Ytieknhhhcjdbnaa

/- The document's Blob: bytes behind their length, by their plain form. -/
namespace Go.Proofs.Ytieknhhhcjdbnaa
open Go.RowKit
set_option linter.unusedVariables false
set_option linter.unusedSimpArgs false
set_option maxRecDepth 100000

theorem refBlobP_any (A : Option Addr) (n c : Nat) (p : List Nat) (w : World) (hr : Reads w w.heap.size 1 A n (bs p)) (hn : n ≤ 140737488355300) :
    Calls Try.prog 34 #[.slice A n c] w (New w (bs (vb p.length ++ p)) (vb p.length ++ p).length) := by
  obtain ⟨i0, hi0, hz0, hz1, hz2⟩ := info_parts info_u8
  have e1 : p.length = n := by have := hr.1; rw [bs_length] at this; omega
  have HB : Hid (vb n ++ p = vb p.length ++ p) := Lib.hid (by rw [e1])
  have HL : Hid ((vb n).length + n = (vb p.length ++ p).length) := Lib.hid (by rw [List.length_append, e1])
  have hv := (vb_length n).2
  have hnw : IntKind.u64.wrap (n : Int) = (n : Int) := IntWalk.u64_in _ (by omega)
  clear e1
  go_enter Try.func34, Try.ntmps34
  go_wp2_with fail
  refine (refVar_any n w (by omega)).mono ?_
  rintro e w1 ⟨v1, rfl, hown1, hb1⟩
  have r1 := hr.next hb1
  go_wp2_with (at_builtin
               refine wpList_append_any _ rfl (.tmp 6) (.tmp 7) _ rfl w.heap.size 5 i0 _ 1 1 Try.underlying36 hi0 hz0 hz1 hz2 rfl (by omega) v1 (vb n).length (bs (vb n)) rfl
                 hown1 w1.heap.size A n c (bs p) rfl r1 (bs_one _) (by unfold maxLen; omega) (by omega) hb1.size ?_
               intro v3 w3 hown3 hg3 hat3)
  go_ret
  rw [← bs_append, HB.out, HL.out] at hown3
  exact ⟨v3, rfl, hown3, hb1.grown hg3 hb1.size (fun k hk => (hown1.lt k hk).1)⟩
end Go.Proofs.Ytieknhhhcjdbnaa

/- The document's Zig. -/
namespace Go.Proofs.Ytieknhhhcjdbnaa
open Go.RowKit
set_option linter.unusedVariables false
set_option linter.unusedSimpArgs false
set_option maxRecDepth 100000

theorem refZig_any (n : Int) (w : World) (h1 : -9223372036854775808 ≤ n) (h2 : n ≤ 9223372036854775807) : Calls Try.prog 33 #[.int .i64 n] w fun e w' => e = .returned (.int .u64 (zigI n)) ∧ w = w' := by
  by_cases h : 0 ≤ n
  · have HZ := Lib.hid (show 2 * n = zigI n by unfold zigI; rw [if_pos h])
    go_enter Try.func33, Try.ntmps33
    go_wp2_with fail
    go_ret
    exact ⟨ret_of (congrArg (Value.int .u64) HZ.out), rfl⟩
  · go_enter Try.func33, Try.ntmps33
    go_wp2_with fail
    go_ret
    refine ⟨ret_of (congrArg (Value.int .u64) ?_), rfl⟩
    unfold zigI
    rw [if_neg (by omega)]
    omega
end Go.Proofs.Ytieknhhhcjdbnaa
