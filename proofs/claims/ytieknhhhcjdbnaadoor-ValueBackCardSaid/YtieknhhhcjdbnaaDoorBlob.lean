/- Contract of package num's PutBlob. -/
import Derived.Test.YtieknhhhcjdbnaaDoorNum
namespace Go.Proofs.YtieknhhhcjdbnaaDoor
open Go.RowKit
set_option linter.unusedVariables false
set_option linter.unusedSimpArgs false
set_option maxRecDepth 100000

/-- A blob's bytes. -/
def blob (p : List Nat) : List Nat := vb p.length ++ p
theorem blob_length (p : List Nat) : (blob p).length = (vb p.length).length + p.length := by simp [blob]
theorem blob_byte (p : List Nat) (h : ∀ b ∈ p, b < 256) (hl : p.length < 18446744073709551616) : ∀ b ∈ blob p, b < 256 := by
  intro b hb
  rcases List.mem_append.1 hb with h1 | h1
  · exact vb_byte _ hl b h1
  · exact h b h1

set_option maxHeartbeats 400000 in
theorem putBlob_any (A A' : Option Addr) (n c m c' : Nat) (xs : List Value) (p : List Nat) (w : World) (hr : Reads w w.heap.size 1 A n xs) (h1 : ∀ u ∈ xs, u.oneCell' = true)
    (hp : Reads w w.heap.size 1 A' m (bs p)) (hb : n + m ≤ 140737488355300) :
    Calls Tryd.prog 64 #[.slice A n c, .slice A' m c'] w (New w (xs ++ bs (blob p)) (n + (blob p).length)) := by
  obtain ⟨i0, hi0, hz0, hz1, hz2⟩ := info_parts info_u8
  have hm : m = p.length := by have := hp.1; rw [bs_length] at this; omega
  subst hm
  have hl := vb_length p.length
  go_enter Tryd.func64, Tryd.ntmps64
  go_wp2_with (first
    | (go_at_call 45; refine (putVar_any none 0 0 p.length [] w (by omega) Reads.none_ (by simp) (by omega)).mono ?_; rintro e w1 ⟨v1, rfl, hown1, hb1⟩
       simp only [Nat.zero_add, List.nil_append] at hown1
       obtain ⟨A1, c1, rfl, hc1, hc1', hr1⟩ := own_slice hown1)
    | (go_at_call 62; refine (copied_any A n c ((vb p.length).length + p.length) xs w1 ((hr.below hb1).more hb1.size) h1 (by omega)).mono ?_; rintro e w2 ⟨v2, rfl, hown2, hb2⟩)
    | (at_builtin
       refine wpList_append_any _ rfl (.tmp 17) (.tmp 18) _ rfl w1.heap.size 5 i0 _ 1 1 Tryd.underlying22 hi0 hz0 hz1 hz2 rfl (by omega) v2 n xs rfl
         hown2 w1.heap.size A1 (vb p.length).length c1 (bs (vb p.length)) rfl (hr1.below hb2) (bs_one _) (by unfold maxLen; omega) (by omega) hb2.size ?_
       intro v3 w3 hown3 hg3 hat3
       have hb3 : Below w1.heap.size w1 w3 := hb2.grown hg3 hb2.size (fun k hk => (hown2.lt k hk).1))
    | (at_builtin
       refine wpList_append_any _ rfl (.tmp 20) (.tmp 21) _ rfl w1.heap.size 5 i0 _ 1 1 Tryd.underlying22 hi0 hz0 hz1 hz2 rfl (by omega) v3 (n + (vb p.length).length) (xs ++ bs (vb p.length)) rfl
         hown3 w.heap.size A' p.length c' (bs p) rfl ((hp.below hb1).below (hb3.mono hb1.size)) (bs_one _) (by unfold maxLen; omega) (by omega) hb3.size ?_
       intro v4 w4 hown4 hg4 hat4))
  go_ret
  refine ⟨v4, rfl, ?_, (hb1.trans (hb3.mono hb1.size)).grown hg4 (by have := hb3.size; have := hb1.size; omega) (fun k hk => by have := (hown3.lt k hk).1; have := hb1.size; omega)⟩
  rw [blob_length]
  refine own_base ?_ hb1.size
  simpa [blob, bs_append, Nat.add_assoc] using hown4
end Go.Proofs.YtieknhhhcjdbnaaDoor
