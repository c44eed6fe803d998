/- Texts joined: Num Blob ZigF. -/
import Derived.Test.YtieknhhhcjdbnaaJ33
import Derived.Test.YtieknhhhcjdbnaaZigP
import Derived.Test.YtieknhhhcjdbnaaJ18
/- Contracts of package num's functions: what they answer of which numbers and bytes, in new memory; nothing that was there changes. -/
namespace Go.Proofs.Ytieknhhhcjdbnaa
open Go.RowKit
set_option linter.unusedVariables false
set_option linter.unusedSimpArgs false
set_option maxRecDepth 100000

set_option maxHeartbeats 400000 in
theorem putVar_any (A : Option Addr) (n c v : Nat) (xs : List Value) (w : World) (hv : v < 18446744073709551616) (hr : Reads w w.heap.size 1 A n xs) (h1 : ∀ u ∈ xs, u.oneCell' = true) (hb : n ≤ 140737488355300) :
    Calls Try.prog 36 #[.slice A n c, .int .u64 (v : Int)] w (New w (xs ++ bs (vb v)) (n + (vb v).length)) := by
  obtain ⟨i0, hi0, hz0, hz1, hz2⟩ := info_parts info_u8
  go_enter Try.func36, Try.ntmps36
  go_wp2_with (go_at_call 43; refine (copied_any A n c 10 xs w hr h1 (by omega)).mono ?_; rintro e w1 ⟨u0, rfl, hown0, hb0⟩)
  go_loopw [5, 1] (fun out v1 wr => ∃ (pre : List Nat) (v' : Nat), pre ++ vb v' = vb v ∧ v' < 18446744073709551616 ∧ v1 = .int .u64 (v' : Int) ∧ wr.ownsRow w.heap.size 5 1 out (n + pre.length) (xs ++ bs pre) ∧ Below w.heap.size w wr)
    (fun _ v1 _ => (intOf v1).toNat)
  case atStart => exact ⟨[], v, rfl, hv, rfl, by simpa [bs] using hown0, hb0⟩
  case round =>
    obtain ⟨pre, v', hpre, hv', rfl, hown, hbl⟩ := hrel
    have hpl := congrArg List.length hpre
    have hl := vb_length v
    simp only [List.length_append] at hpl
    have hplen : pre.length ≤ 10 := by omega
    have Hpre := Lib.hid hpre
    clear hpre hpl
    have hsz := hbl.size
    by_cases hlt : 127 < v'
    · go_wp2_with (at_builtin
                   refine wpList_append_any _ rfl (.tmp 12) (.tmp 16) _ rfl w.heap.size 5 i0 _ 1 1 Try.underlying36 hi0 hz0 hz1 hz2 rfl (by omega) u5 (n + pre.length) (xs ++ bs pre) rfl
                     (hown.alloc _) (wr.heap.size + 1) (some ⟨wr.heap.size, 0, none⟩) 1 1 [.int .u8 (bits .or .u8 ((v' : Int) % 256) 128)] rfl (Reads.new wr _ _) (one_int _ _) (by unfold maxLen; omega) (by omega) (by simp; omega) ?_
                   intro v2 w2 hown2 hg2 hat2)
      have hbit : bits .or .u8 ((v' : Int) % 256) 128 = ((128 + v' % 128 : Nat) : Int) := by
        rw [show ((v' : Int) % 256) = ((v' % 256 : Nat) : Int) from rfl, show (128 : Int) = ((128 : Nat) : Int) from rfl, u8_or_nat _ _ (by omega) (by omega), bit7 _ (by omega)]
        congr 2; omega
      rw [bs_snoc xs pre _ _ hbit] at hown2
      have hvb := vb_big v' (by omega) hv'
      refine ⟨⟨pre ++ [128 + v' % 128], v' / 128, ?_, by omega, rfl, by simpa [Nat.add_assoc] using hown2, below_app hbl hown hsz hg2⟩, ?_⟩
      · rw [List.append_assoc, ← Hpre.out, hvb]; rfl
      · simp [intOf]; omega
    · go_wp2_with (at_builtin
                   refine wpList_append_any _ rfl (.tmp 18) (.tmp 21) _ rfl w.heap.size 5 i0 _ 1 1 Try.underlying36 hi0 hz0 hz1 hz2 rfl (by omega) u5 (n + pre.length) (xs ++ bs pre) rfl
                     (hown.alloc _) (wr.heap.size + 1) (some ⟨wr.heap.size, 0, none⟩) 1 1 [.int .u8 (v' : Int)] rfl (Reads.new wr _ _) (one_int _ _) (by unfold maxLen; omega) (by omega) (by simp; omega) ?_
                   intro v2 w2 hown2 hg2 hat2)
      go_ret
      have hvb := vb_small v' (by omega)
      have hpre := Hpre.out
      rw [hvb] at hpre
      rw [bs_snoc xs pre v' _ rfl, hpre] at hown2
      refine ⟨v2, rfl, ?_, below_app hbl hown hsz hg2⟩
      rw [← hpre] at hown2 ⊢
      simpa [Nat.add_assoc] using hown2
end Go.Proofs.Ytieknhhhcjdbnaa

/- Contract of package num's PutBlob. -/
namespace Go.Proofs.Ytieknhhhcjdbnaa
open Go.RowKit
set_option linter.unusedVariables false
set_option linter.unusedSimpArgs false
set_option maxRecDepth 100000

/-- A blob's bytes. -/
def blob (p : List Nat) : List Nat := vb p.length ++ p
theorem blob_length (p : List Nat) : (blob p).length = (vb p.length).length + p.length := by simp [blob]
theorem blob_byte (p : List Nat) (h : ∀ b ∈ p, b < 256) (hl : p.length < 18446744073709551616) : ∀ b ∈ blob p, b < 256 := by
  intro b hb
  rcases List.mem_append.1 hb with h1 | h1
  · exact vb_byte _ hl b h1
  · exact h b h1

set_option maxHeartbeats 400000 in
theorem putBlob_any (A A' : Option Addr) (n c m c' : Nat) (xs : List Value) (p : List Nat) (w : World) (hr : Reads w w.heap.size 1 A n xs) (h1 : ∀ u ∈ xs, u.oneCell' = true)
    (hp : Reads w w.heap.size 1 A' m (bs p)) (hb : n + m ≤ 140737488355300) :
    Calls Try.prog 42 #[.slice A n c, .slice A' m c'] w (New w (xs ++ bs (blob p)) (n + (blob p).length)) := by
  obtain ⟨i0, hi0, hz0, hz1, hz2⟩ := info_parts info_u8
  have hm : m = p.length := by have := hp.1; rw [bs_length] at this; omega
  subst hm
  have hl := vb_length p.length
  go_enter Try.func42, Try.ntmps42
  go_wp2_with (first
    | (go_at_call 36; refine (putVar_any none 0 0 p.length [] w (by omega) Reads.none_ (by simp) (by omega)).mono ?_; rintro e w1 ⟨v1, rfl, hown1, hb1⟩
       simp only [Nat.zero_add, List.nil_append] at hown1
       obtain ⟨A1, c1, rfl, hc1, hc1', hr1⟩ := own_slice hown1)
    | (go_at_call 43; refine (copied_any A n c ((vb p.length).length + p.length) xs w1 ((hr.below hb1).more hb1.size) h1 (by omega)).mono ?_; rintro e w2 ⟨v2, rfl, hown2, hb2⟩)
    | (at_builtin
       refine wpList_append_any _ rfl (.tmp 17) (.tmp 18) _ rfl w1.heap.size 5 i0 _ 1 1 Try.underlying36 hi0 hz0 hz1 hz2 rfl (by omega) v2 n xs rfl
         hown2 w1.heap.size A1 (vb p.length).length c1 (bs (vb p.length)) rfl (hr1.below hb2) (bs_one _) (by unfold maxLen; omega) (by omega) hb2.size ?_
       intro v3 w3 hown3 hg3 hat3
       have hb3 : Below w1.heap.size w1 w3 := hb2.grown hg3 hb2.size (fun k hk => (hown2.lt k hk).1))
    | (at_builtin
       refine wpList_append_any _ rfl (.tmp 20) (.tmp 21) _ rfl w1.heap.size 5 i0 _ 1 1 Try.underlying36 hi0 hz0 hz1 hz2 rfl (by omega) v3 (n + (vb p.length).length) (xs ++ bs (vb p.length)) rfl
         hown3 w.heap.size A' p.length c' (bs p) rfl ((hp.below hb1).below (hb3.mono hb1.size)) (bs_one _) (by unfold maxLen; omega) (by omega) hb3.size ?_
       intro v4 w4 hown4 hg4 hat4))
  go_ret
  refine ⟨v4, rfl, ?_, (hb1.trans (hb3.mono hb1.size)).grown hg4 (by have := hb3.size; have := hb1.size; omega) (fun k hk => by have := (hown3.lt k hk).1; have := hb1.size; omega)⟩
  rw [blob_length]
  refine own_base ?_ hb1.size
  simpa [blob, bs_append, Nat.add_assoc] using hown4
end Go.Proofs.Ytieknhhhcjdbnaa

/- Contract of package num's Zig. -/
namespace Go.Proofs.Ytieknhhhcjdbnaa
open Go.RowKit
set_option linter.unusedVariables false
set_option linter.unusedSimpArgs false
set_option maxRecDepth 100000

theorem zig_any (n : Int) (w : World) (h1 : -9223372036854775808 ≤ n) (h2 : n ≤ 9223372036854775807) : Calls Try.prog 41 #[.int .i64 n] w fun e w' => e = .returned (.int .u64 (zigI n)) ∧ w = w' := by
  by_cases h : 0 ≤ n
  · have HZ := Lib.hid (zig_low n h h2)
    go_enter Try.func41, Try.ntmps41
    go_wp2_with fail
    go_ret
    exact ⟨ret_of (congrArg (Value.int .u64) HZ.out), rfl⟩
  · have HZ := Lib.hid (zig_high n h h1)
    go_enter Try.func41, Try.ntmps41
    go_wp2_with fail
    go_ret
    exact ⟨ret_of (congrArg (Value.int .u64) HZ.out), rfl⟩
end Go.Proofs.Ytieknhhhcjdbnaa
