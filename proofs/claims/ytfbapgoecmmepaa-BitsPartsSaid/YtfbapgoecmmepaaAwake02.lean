/- Contract of the statements' awake: the document's example holds; it answers true. -/
import Derived.Test.YtfbapgoecmmepaaSame64
import Derived.Test.YtfbapgoecmmepaaUnpack
namespace Go.Proofs.Ytfbapgoecmmepaa
open Go.RowKit
set_option linter.unusedVariables false
set_option maxRecDepth 100000

theorem awake_pack : packE [1, 2, 3] 2 = 0 ∧ packS [1, 2, 3] 2 = [57] ∧ wd [1, 2, 3] = 2 := by decide +kernel
theorem reads_123 (w : World) (t : TypeId) : Reads (w.alloc (.cells #[.int .u64 1, .int .u64 2, .int .u64 3] t)) (w.heap.size + 1) 1 (some ⟨w.heap.size, 0, none⟩) 3 (us [1, 2, 3]) :=
  reads_blk (Blk.new w _ _) _ _ _ (by omega) (by simp [us]) (by simp [us])
theorem pack_123 (w : World) (t : TypeId) : Calls Try.prog 8 #[.slice (some ⟨w.heap.size, 0, none⟩) 3 3, .int .i64 2] (w.alloc (.cells #[.int .u64 1, .int .u64 2, .int .u64 3] t))
    fun e w' => ∃ A c, e = .returned (.tuple #[.slice A 1 c, .int .i64 0]) ∧ Reads w' w'.heap.size 1 A 1 (bs [57]) ∧ Below w.heap.size w w' := by
  have h := pack_any (some ⟨w.heap.size, 0, none⟩) 3 3 [1, 2, 3] 2 (w.alloc (.cells #[.int .u64 1, .int .u64 2, .int .u64 3] t)) ((reads_123 w t).more (by simp)) (by intro a ha; simp at ha; omega) (by omega) (by omega)
  obtain ⟨h1, h2, _⟩ := awake_pack
  rw [h1, h2] at h
  refine h.mono ?_
  rintro e w' ⟨v, rfl, hown, hb⟩
  obtain ⟨A, c, rfl, _, _, hr⟩ := own_slice hown
  exact ⟨A, c, rfl, hr, ((Below.refl _ _).alloc (Nat.le_refl _) _).trans (hb.mono (by simp))⟩
theorem width_123 (w : World) (t : TypeId) : Calls Try.prog 11 #[.slice (some ⟨w.heap.size, 0, none⟩) 3 3] (w.alloc (.cells #[.int .u64 1, .int .u64 2, .int .u64 3] t))
    fun e w' => e = .returned (.int .i64 2) ∧ w.alloc (.cells #[.int .u64 1, .int .u64 2, .int .u64 3] t) = w' := by
  have h := width_any (some ⟨w.heap.size, 0, none⟩) 3 3 [1, 2, 3] (w.alloc (.cells #[.int .u64 1, .int .u64 2, .int .u64 3] t)) ((reads_123 w t).more (by simp)) (by intro a ha; simp at ha; omega) (by omega)
  rw [awake_pack.2.2] at h
  exact h

theorem awake_any (w : World) : Calls Try.prog 7 #[] w fun e w' => e = .returned (.bool true) ∧ Below w.heap.size w w' := by
  go_enter Try.func7, Try.ntmps7
  go_wp2_with (first
    | (go_at_call 8; refine (pack_123 w _).mono ?_; rintro e w1 ⟨A, c, rfl, hr, hb⟩)
    | (go_at_call 10; refine (same_true A _ 1 c 1 1 [57] _ (by exact (hr.alloc (Nat.le_refl _) _).more (by simp)) (by exact (reads_blk (Blk.new w1 _ _) _ _ _ (by simp) (by simp [bs]) (by simp [bs]))) (by omega)).mono ?_; rintro e w2 ⟨rfl, hd⟩)
    | (go_at_call 11; refine (width_123 w2 _).mono ?_; rintro e w3 ⟨rfl, rfl⟩))
  go_ret
  exact ⟨rfl, (hd.below (hb.alloc hb.size _)).alloc (by have := (hd.below (hb.alloc hb.size _)).size; omega) _⟩
end Go.Proofs.Ytfbapgoecmmepaa
