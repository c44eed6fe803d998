/- Contracts of package num's PutFix, Zig, Zag. -/
import Derived.Deep.RegionLaw
import Derived.Test.YtpibekpddbhojaaDoorCopied
namespace Go.Proofs.YtpibekpddbhojaaDoor
open Go.RowKit
set_option linter.unusedVariables false
set_option maxRecDepth 100000

theorem putFix_0 (A : Option Addr) (n c v : Nat) (xs : List Value) (w : World) (hv : v < 18446744073709551616) (hr : Reads w w.heap.size 1 A n xs) (h1 : ∀ u ∈ xs, u.oneCell' = true) (hb : n ≤ 140737488355300) :
    Calls Tryd.prog 20 #[.slice A n c, .int .u64 (v : Int), .int .i64 0] w (New w (xs ++ bs (fx 0 v)) (n + 0)) := by
  obtain ⟨i0, hi0, hz0, hz1, hz2⟩ := info_parts info_u8
  have hrd0 : Reads (w.alloc (.cells #[.int .u8 0, .int .u8 0, .int .u8 0, .int .u8 0, .int .u8 0, .int .u8 0, .int .u8 0, .int .u8 0] 60)).drew (w.heap.size + 1) 1 (some ⟨w.heap.size, 0, none⟩) 0 (bs (fx 0 v)) :=
    reads_blk (Blk.drew (Blk.new w _ _)) _ _ _ (by omega) (by simp [bs, fx_length]) (by simp [bs, fx])
  go_enter Tryd.func20, Tryd.ntmps20
  go_wp2_with fail
  go_region_law (first
    | (refine step_append_any _ rfl (.tmp 61) (.tmp 63) _ rfl (w.heap.size + 1) 5 i0 _ 1 1 Tryd.underlying22 hi0 hz0 hz1 hz2 rfl (by omega) v1 n xs (by simp [Act.eval, Act.put])
        hown1 (w.heap.size + 1) (some ⟨w.heap.size, 0, none⟩) 0 8 (bs (fx 0 v)) (by simp [Act.eval, Act.put]) hrd (bs_one _) (by unfold maxLen; omega) (by omega) hsz ?_
       intro v2 w2 hown2 hg2 hat2)
    | (go_simp; go_at_call 29; refine (copied_any A n c 0 xs _ (by exact ((hr.alloc (Nat.le_refl _) _).more (by simp))) h1 (by omega)).mono ?_; rintro e w1 ⟨v1, rfl, hown1, hb1⟩
       simp only [World.size_drew, World.size_alloc] at hown1 hb1
       have hrd := hrd0.below hb1
       have hsz : w.heap.size + 1 ≤ w1.heap.size := by have := hb1.size; simpa using this
       show _))
  go_wp2_with fail
  go_ret
  exact ⟨v2, rfl, own_base hown2 (by omega), ((((Below.refl _ _).alloc (Nat.le_refl _) _).drew).trans (hb1.mono (by omega))).grown hg2 (by omega) (fun k hk => by have := (hown1.lt k hk).1; omega)⟩
theorem putFix_1 (A : Option Addr) (n c v : Nat) (xs : List Value) (w : World) (hv : v < 18446744073709551616) (hr : Reads w w.heap.size 1 A n xs) (h1 : ∀ u ∈ xs, u.oneCell' = true) (hb : n ≤ 140737488355300) :
    Calls Tryd.prog 20 #[.slice A n c, .int .u64 (v : Int), .int .i64 1] w (New w (xs ++ bs (fx 1 v)) (n + 1)) := by
  obtain ⟨i0, hi0, hz0, hz1, hz2⟩ := info_parts info_u8
  have hrd0 : Reads (w.alloc (.cells #[.int .u8 ((v : Int) % 256), .int .u8 0, .int .u8 0, .int .u8 0, .int .u8 0, .int .u8 0, .int .u8 0, .int .u8 0] 60)).drew (w.heap.size + 1) 1 (some ⟨w.heap.size, 0, none⟩) 1 (bs (fx 1 v)) :=
    reads_blk (Blk.drew (Blk.new w _ _)) _ _ _ (by omega) (by simp [bs, fx_length]) (by simp [bs, fx])
  go_enter Tryd.func20, Tryd.ntmps20
  go_wp2_with fail
  go_region_law (first
    | (refine step_append_any _ rfl (.tmp 61) (.tmp 63) _ rfl (w.heap.size + 1) 5 i0 _ 1 1 Tryd.underlying22 hi0 hz0 hz1 hz2 rfl (by omega) v1 n xs (by simp [Act.eval, Act.put])
        hown1 (w.heap.size + 1) (some ⟨w.heap.size, 0, none⟩) 1 8 (bs (fx 1 v)) (by simp [Act.eval, Act.put]) hrd (bs_one _) (by unfold maxLen; omega) (by omega) hsz ?_
       intro v2 w2 hown2 hg2 hat2)
    | (go_simp; go_at_call 29; refine (copied_any A n c 1 xs _ (by exact ((hr.alloc (Nat.le_refl _) _).more (by simp))) h1 (by omega)).mono ?_; rintro e w1 ⟨v1, rfl, hown1, hb1⟩
       simp only [World.size_drew, World.size_alloc] at hown1 hb1
       have hrd := hrd0.below hb1
       have hsz : w.heap.size + 1 ≤ w1.heap.size := by have := hb1.size; simpa using this
       show _))
  go_wp2_with fail
  go_ret
  exact ⟨v2, rfl, own_base hown2 (by omega), ((((Below.refl _ _).alloc (Nat.le_refl _) _).drew).trans (hb1.mono (by omega))).grown hg2 (by omega) (fun k hk => by have := (hown1.lt k hk).1; omega)⟩
theorem putFix_2 (A : Option Addr) (n c v : Nat) (xs : List Value) (w : World) (hv : v < 18446744073709551616) (hr : Reads w w.heap.size 1 A n xs) (h1 : ∀ u ∈ xs, u.oneCell' = true) (hb : n ≤ 140737488355300) :
    Calls Tryd.prog 20 #[.slice A n c, .int .u64 (v : Int), .int .i64 2] w (New w (xs ++ bs (fx 2 v)) (n + 2)) := by
  obtain ⟨i0, hi0, hz0, hz1, hz2⟩ := info_parts info_u8
  have hrd0 : Reads (w.alloc (.cells #[.int .u8 ((v : Int) % 256), .int .u8 ((v : Int) / 256 % 256), .int .u8 0, .int .u8 0, .int .u8 0, .int .u8 0, .int .u8 0, .int .u8 0] 60)).drew (w.heap.size + 1) 1 (some ⟨w.heap.size, 0, none⟩) 2 (bs (fx 2 v)) :=
    reads_blk (Blk.drew (Blk.new w _ _)) _ _ _ (by omega) (by simp [bs, fx_length]) (by simp [bs, fx])
  go_enter Tryd.func20, Tryd.ntmps20
  go_wp2_with fail
  go_region_law (first
    | (refine step_append_any _ rfl (.tmp 61) (.tmp 63) _ rfl (w.heap.size + 1) 5 i0 _ 1 1 Tryd.underlying22 hi0 hz0 hz1 hz2 rfl (by omega) v1 n xs (by simp [Act.eval, Act.put])
        hown1 (w.heap.size + 1) (some ⟨w.heap.size, 0, none⟩) 2 8 (bs (fx 2 v)) (by simp [Act.eval, Act.put]) hrd (bs_one _) (by unfold maxLen; omega) (by omega) hsz ?_
       intro v2 w2 hown2 hg2 hat2)
    | (go_simp; go_at_call 29; refine (copied_any A n c 2 xs _ (by exact ((hr.alloc (Nat.le_refl _) _).more (by simp))) h1 (by omega)).mono ?_; rintro e w1 ⟨v1, rfl, hown1, hb1⟩
       simp only [World.size_drew, World.size_alloc] at hown1 hb1
       have hrd := hrd0.below hb1
       have hsz : w.heap.size + 1 ≤ w1.heap.size := by have := hb1.size; simpa using this
       show _))
  go_wp2_with fail
  go_ret
  exact ⟨v2, rfl, own_base hown2 (by omega), ((((Below.refl _ _).alloc (Nat.le_refl _) _).drew).trans (hb1.mono (by omega))).grown hg2 (by omega) (fun k hk => by have := (hown1.lt k hk).1; omega)⟩
theorem putFix_3 (A : Option Addr) (n c v : Nat) (xs : List Value) (w : World) (hv : v < 18446744073709551616) (hr : Reads w w.heap.size 1 A n xs) (h1 : ∀ u ∈ xs, u.oneCell' = true) (hb : n ≤ 140737488355300) :
    Calls Tryd.prog 20 #[.slice A n c, .int .u64 (v : Int), .int .i64 3] w (New w (xs ++ bs (fx 3 v)) (n + 3)) := by
  obtain ⟨i0, hi0, hz0, hz1, hz2⟩ := info_parts info_u8
  have hrd0 : Reads (w.alloc (.cells #[.int .u8 ((v : Int) % 256), .int .u8 ((v : Int) / 256 % 256), .int .u8 ((v : Int) / 65536 % 256), .int .u8 0, .int .u8 0, .int .u8 0, .int .u8 0, .int .u8 0] 60)).drew (w.heap.size + 1) 1 (some ⟨w.heap.size, 0, none⟩) 3 (bs (fx 3 v)) :=
    reads_blk (Blk.drew (Blk.new w _ _)) _ _ _ (by omega) (by simp [bs, fx_length]) (by simp [bs, fx, Nat.div_div_eq_div_mul])
  go_enter Tryd.func20, Tryd.ntmps20
  go_wp2_with fail
  go_region_law (first
    | (refine step_append_any _ rfl (.tmp 61) (.tmp 63) _ rfl (w.heap.size + 1) 5 i0 _ 1 1 Tryd.underlying22 hi0 hz0 hz1 hz2 rfl (by omega) v1 n xs (by simp [Act.eval, Act.put])
        hown1 (w.heap.size + 1) (some ⟨w.heap.size, 0, none⟩) 3 8 (bs (fx 3 v)) (by simp [Act.eval, Act.put]) hrd (bs_one _) (by unfold maxLen; omega) (by omega) hsz ?_
       intro v2 w2 hown2 hg2 hat2)
    | (go_simp; go_at_call 29; refine (copied_any A n c 3 xs _ (by exact ((hr.alloc (Nat.le_refl _) _).more (by simp))) h1 (by omega)).mono ?_; rintro e w1 ⟨v1, rfl, hown1, hb1⟩
       simp only [World.size_drew, World.size_alloc] at hown1 hb1
       have hrd := hrd0.below hb1
       have hsz : w.heap.size + 1 ≤ w1.heap.size := by have := hb1.size; simpa using this
       show _))
  go_wp2_with fail
  go_ret
  exact ⟨v2, rfl, own_base hown2 (by omega), ((((Below.refl _ _).alloc (Nat.le_refl _) _).drew).trans (hb1.mono (by omega))).grown hg2 (by omega) (fun k hk => by have := (hown1.lt k hk).1; omega)⟩
theorem putFix_4 (A : Option Addr) (n c v : Nat) (xs : List Value) (w : World) (hv : v < 18446744073709551616) (hr : Reads w w.heap.size 1 A n xs) (h1 : ∀ u ∈ xs, u.oneCell' = true) (hb : n ≤ 140737488355300) :
    Calls Tryd.prog 20 #[.slice A n c, .int .u64 (v : Int), .int .i64 4] w (New w (xs ++ bs (fx 4 v)) (n + 4)) := by
  obtain ⟨i0, hi0, hz0, hz1, hz2⟩ := info_parts info_u8
  have hrd0 : Reads (w.alloc (.cells #[.int .u8 ((v : Int) % 256), .int .u8 ((v : Int) / 256 % 256), .int .u8 ((v : Int) / 65536 % 256), .int .u8 ((v : Int) / 16777216 % 256), .int .u8 0, .int .u8 0, .int .u8 0, .int .u8 0] 60)).drew (w.heap.size + 1) 1 (some ⟨w.heap.size, 0, none⟩) 4 (bs (fx 4 v)) :=
    reads_blk (Blk.drew (Blk.new w _ _)) _ _ _ (by omega) (by simp [bs, fx_length]) (by simp [bs, fx, Nat.div_div_eq_div_mul])
  go_enter Tryd.func20, Tryd.ntmps20
  go_wp2_with fail
  go_region_law (first
    | (refine step_append_any _ rfl (.tmp 61) (.tmp 63) _ rfl (w.heap.size + 1) 5 i0 _ 1 1 Tryd.underlying22 hi0 hz0 hz1 hz2 rfl (by omega) v1 n xs (by simp [Act.eval, Act.put])
        hown1 (w.heap.size + 1) (some ⟨w.heap.size, 0, none⟩) 4 8 (bs (fx 4 v)) (by simp [Act.eval, Act.put]) hrd (bs_one _) (by unfold maxLen; omega) (by omega) hsz ?_
       intro v2 w2 hown2 hg2 hat2)
    | (go_simp; go_at_call 29; refine (copied_any A n c 4 xs _ (by exact ((hr.alloc (Nat.le_refl _) _).more (by simp))) h1 (by omega)).mono ?_; rintro e w1 ⟨v1, rfl, hown1, hb1⟩
       simp only [World.size_drew, World.size_alloc] at hown1 hb1
       have hrd := hrd0.below hb1
       have hsz : w.heap.size + 1 ≤ w1.heap.size := by have := hb1.size; simpa using this
       show _))
  go_wp2_with fail
  go_ret
  exact ⟨v2, rfl, own_base hown2 (by omega), ((((Below.refl _ _).alloc (Nat.le_refl _) _).drew).trans (hb1.mono (by omega))).grown hg2 (by omega) (fun k hk => by have := (hown1.lt k hk).1; omega)⟩
theorem putFix_5 (A : Option Addr) (n c v : Nat) (xs : List Value) (w : World) (hv : v < 18446744073709551616) (hr : Reads w w.heap.size 1 A n xs) (h1 : ∀ u ∈ xs, u.oneCell' = true) (hb : n ≤ 140737488355300) :
    Calls Tryd.prog 20 #[.slice A n c, .int .u64 (v : Int), .int .i64 5] w (New w (xs ++ bs (fx 5 v)) (n + 5)) := by
  obtain ⟨i0, hi0, hz0, hz1, hz2⟩ := info_parts info_u8
  have hrd0 : Reads (w.alloc (.cells #[.int .u8 ((v : Int) % 256), .int .u8 ((v : Int) / 256 % 256), .int .u8 ((v : Int) / 65536 % 256), .int .u8 ((v : Int) / 16777216 % 256), .int .u8 ((v : Int) / 4294967296 % 256), .int .u8 0, .int .u8 0, .int .u8 0] 60)).drew (w.heap.size + 1) 1 (some ⟨w.heap.size, 0, none⟩) 5 (bs (fx 5 v)) :=
    reads_blk (Blk.drew (Blk.new w _ _)) _ _ _ (by omega) (by simp [bs, fx_length]) (by simp [bs, fx, Nat.div_div_eq_div_mul])
  go_enter Tryd.func20, Tryd.ntmps20
  go_wp2_with fail
  go_region_law (first
    | (refine step_append_any _ rfl (.tmp 61) (.tmp 63) _ rfl (w.heap.size + 1) 5 i0 _ 1 1 Tryd.underlying22 hi0 hz0 hz1 hz2 rfl (by omega) v1 n xs (by simp [Act.eval, Act.put])
        hown1 (w.heap.size + 1) (some ⟨w.heap.size, 0, none⟩) 5 8 (bs (fx 5 v)) (by simp [Act.eval, Act.put]) hrd (bs_one _) (by unfold maxLen; omega) (by omega) hsz ?_
       intro v2 w2 hown2 hg2 hat2)
    | (go_simp; go_at_call 29; refine (copied_any A n c 5 xs _ (by exact ((hr.alloc (Nat.le_refl _) _).more (by simp))) h1 (by omega)).mono ?_; rintro e w1 ⟨v1, rfl, hown1, hb1⟩
       simp only [World.size_drew, World.size_alloc] at hown1 hb1
       have hrd := hrd0.below hb1
       have hsz : w.heap.size + 1 ≤ w1.heap.size := by have := hb1.size; simpa using this
       show _))
  go_wp2_with fail
  go_ret
  exact ⟨v2, rfl, own_base hown2 (by omega), ((((Below.refl _ _).alloc (Nat.le_refl _) _).drew).trans (hb1.mono (by omega))).grown hg2 (by omega) (fun k hk => by have := (hown1.lt k hk).1; omega)⟩
theorem putFix_6 (A : Option Addr) (n c v : Nat) (xs : List Value) (w : World) (hv : v < 18446744073709551616) (hr : Reads w w.heap.size 1 A n xs) (h1 : ∀ u ∈ xs, u.oneCell' = true) (hb : n ≤ 140737488355300) :
    Calls Tryd.prog 20 #[.slice A n c, .int .u64 (v : Int), .int .i64 6] w (New w (xs ++ bs (fx 6 v)) (n + 6)) := by
  obtain ⟨i0, hi0, hz0, hz1, hz2⟩ := info_parts info_u8
  have hrd0 : Reads (w.alloc (.cells #[.int .u8 ((v : Int) % 256), .int .u8 ((v : Int) / 256 % 256), .int .u8 ((v : Int) / 65536 % 256), .int .u8 ((v : Int) / 16777216 % 256), .int .u8 ((v : Int) / 4294967296 % 256), .int .u8 ((v : Int) / 1099511627776 % 256), .int .u8 0, .int .u8 0] 60)).drew (w.heap.size + 1) 1 (some ⟨w.heap.size, 0, none⟩) 6 (bs (fx 6 v)) :=
    reads_blk (Blk.drew (Blk.new w _ _)) _ _ _ (by omega) (by simp [bs, fx_length]) (by simp [bs, fx, Nat.div_div_eq_div_mul])
  go_enter Tryd.func20, Tryd.ntmps20
  go_wp2_with fail
  go_region_law (first
    | (refine step_append_any _ rfl (.tmp 61) (.tmp 63) _ rfl (w.heap.size + 1) 5 i0 _ 1 1 Tryd.underlying22 hi0 hz0 hz1 hz2 rfl (by omega) v1 n xs (by simp [Act.eval, Act.put])
        hown1 (w.heap.size + 1) (some ⟨w.heap.size, 0, none⟩) 6 8 (bs (fx 6 v)) (by simp [Act.eval, Act.put]) hrd (bs_one _) (by unfold maxLen; omega) (by omega) hsz ?_
       intro v2 w2 hown2 hg2 hat2)
    | (go_simp; go_at_call 29; refine (copied_any A n c 6 xs _ (by exact ((hr.alloc (Nat.le_refl _) _).more (by simp))) h1 (by omega)).mono ?_; rintro e w1 ⟨v1, rfl, hown1, hb1⟩
       simp only [World.size_drew, World.size_alloc] at hown1 hb1
       have hrd := hrd0.below hb1
       have hsz : w.heap.size + 1 ≤ w1.heap.size := by have := hb1.size; simpa using this
       show _))
  go_wp2_with fail
  go_ret
  exact ⟨v2, rfl, own_base hown2 (by omega), ((((Below.refl _ _).alloc (Nat.le_refl _) _).drew).trans (hb1.mono (by omega))).grown hg2 (by omega) (fun k hk => by have := (hown1.lt k hk).1; omega)⟩
theorem putFix_7 (A : Option Addr) (n c v : Nat) (xs : List Value) (w : World) (hv : v < 18446744073709551616) (hr : Reads w w.heap.size 1 A n xs) (h1 : ∀ u ∈ xs, u.oneCell' = true) (hb : n ≤ 140737488355300) :
    Calls Tryd.prog 20 #[.slice A n c, .int .u64 (v : Int), .int .i64 7] w (New w (xs ++ bs (fx 7 v)) (n + 7)) := by
  obtain ⟨i0, hi0, hz0, hz1, hz2⟩ := info_parts info_u8
  have hrd0 : Reads (w.alloc (.cells #[.int .u8 ((v : Int) % 256), .int .u8 ((v : Int) / 256 % 256), .int .u8 ((v : Int) / 65536 % 256), .int .u8 ((v : Int) / 16777216 % 256), .int .u8 ((v : Int) / 4294967296 % 256), .int .u8 ((v : Int) / 1099511627776 % 256), .int .u8 ((v : Int) / 281474976710656 % 256), .int .u8 0] 60)).drew (w.heap.size + 1) 1 (some ⟨w.heap.size, 0, none⟩) 7 (bs (fx 7 v)) :=
    reads_blk (Blk.drew (Blk.new w _ _)) _ _ _ (by omega) (by simp [bs, fx_length]) (by simp [bs, fx, Nat.div_div_eq_div_mul])
  go_enter Tryd.func20, Tryd.ntmps20
  go_wp2_with fail
  go_region_law (first
    | (refine step_append_any _ rfl (.tmp 61) (.tmp 63) _ rfl (w.heap.size + 1) 5 i0 _ 1 1 Tryd.underlying22 hi0 hz0 hz1 hz2 rfl (by omega) v1 n xs (by simp [Act.eval, Act.put])
        hown1 (w.heap.size + 1) (some ⟨w.heap.size, 0, none⟩) 7 8 (bs (fx 7 v)) (by simp [Act.eval, Act.put]) hrd (bs_one _) (by unfold maxLen; omega) (by omega) hsz ?_
       intro v2 w2 hown2 hg2 hat2)
    | (go_simp; go_at_call 29; refine (copied_any A n c 7 xs _ (by exact ((hr.alloc (Nat.le_refl _) _).more (by simp))) h1 (by omega)).mono ?_; rintro e w1 ⟨v1, rfl, hown1, hb1⟩
       simp only [World.size_drew, World.size_alloc] at hown1 hb1
       have hrd := hrd0.below hb1
       have hsz : w.heap.size + 1 ≤ w1.heap.size := by have := hb1.size; simpa using this
       show _))
  go_wp2_with fail
  go_ret
  exact ⟨v2, rfl, own_base hown2 (by omega), ((((Below.refl _ _).alloc (Nat.le_refl _) _).drew).trans (hb1.mono (by omega))).grown hg2 (by omega) (fun k hk => by have := (hown1.lt k hk).1; omega)⟩
theorem putFix_8 (A : Option Addr) (n c v : Nat) (xs : List Value) (w : World) (hv : v < 18446744073709551616) (hr : Reads w w.heap.size 1 A n xs) (h1 : ∀ u ∈ xs, u.oneCell' = true) (hb : n ≤ 140737488355300) :
    Calls Tryd.prog 20 #[.slice A n c, .int .u64 (v : Int), .int .i64 8] w (New w (xs ++ bs (fx 8 v)) (n + 8)) := by
  obtain ⟨i0, hi0, hz0, hz1, hz2⟩ := info_parts info_u8
  have hrd0 : Reads (w.alloc (.cells #[.int .u8 ((v : Int) % 256), .int .u8 ((v : Int) / 256 % 256), .int .u8 ((v : Int) / 65536 % 256), .int .u8 ((v : Int) / 16777216 % 256), .int .u8 ((v : Int) / 4294967296 % 256), .int .u8 ((v : Int) / 1099511627776 % 256), .int .u8 ((v : Int) / 281474976710656 % 256), .int .u8 ((v : Int) / 72057594037927936)] 60)).drew (w.heap.size + 1) 1 (some ⟨w.heap.size, 0, none⟩) 8 (bs (fx 8 v)) :=
    reads_blk (Blk.drew (Blk.new w _ _)) _ _ _ (by omega) (by simp [bs, fx_length]) (by simp [bs, fx, Nat.div_div_eq_div_mul]; omega)
  go_enter Tryd.func20, Tryd.ntmps20
  go_wp2_with fail
  go_region_law (first
    | (refine step_append_any _ rfl (.tmp 61) (.tmp 63) _ rfl (w.heap.size + 1) 5 i0 _ 1 1 Tryd.underlying22 hi0 hz0 hz1 hz2 rfl (by omega) v1 n xs (by simp [Act.eval, Act.put])
        hown1 (w.heap.size + 1) (some ⟨w.heap.size, 0, none⟩) 8 8 (bs (fx 8 v)) (by simp [Act.eval, Act.put]) hrd (bs_one _) (by unfold maxLen; omega) (by omega) hsz ?_
       intro v2 w2 hown2 hg2 hat2)
    | (go_simp; go_at_call 29; refine (copied_any A n c 8 xs _ (by exact ((hr.alloc (Nat.le_refl _) _).more (by simp))) h1 (by omega)).mono ?_; rintro e w1 ⟨v1, rfl, hown1, hb1⟩
       simp only [World.size_drew, World.size_alloc] at hown1 hb1
       have hrd := hrd0.below hb1
       have hsz : w.heap.size + 1 ≤ w1.heap.size := by have := hb1.size; simpa using this
       show _))
  go_wp2_with fail
  go_ret
  exact ⟨v2, rfl, own_base hown2 (by omega), ((((Below.refl _ _).alloc (Nat.le_refl _) _).drew).trans (hb1.mono (by omega))).grown hg2 (by omega) (fun k hk => by have := (hown1.lt k hk).1; omega)⟩
theorem putFix_low (A : Option Addr) (n c v : Nat) (s : Int) (xs : List Value) (w : World) (hs : s < 0) (hm : max s 0 = 0) (hv : v < 18446744073709551616) (hr : Reads w w.heap.size 1 A n xs) (h1 : ∀ u ∈ xs, u.oneCell' = true) (hb : n ≤ 140737488355300) :
    Calls Tryd.prog 20 #[.slice A n c, .int .u64 (v : Int), .int .i64 s] w (New w (xs ++ bs (fx 0 v)) (n + 0)) := by
  obtain ⟨i0, hi0, hz0, hz1, hz2⟩ := info_parts info_u8
  have hrd0 : Reads (w.alloc (.cells #[.int .u8 0, .int .u8 0, .int .u8 0, .int .u8 0, .int .u8 0, .int .u8 0, .int .u8 0, .int .u8 0] 60)).drew (w.heap.size + 1) 1 (some ⟨w.heap.size, 0, none⟩) 0 (bs (fx 0 v)) :=
    reads_blk (Blk.drew (Blk.new w _ _)) _ _ _ (by omega) (by simp [bs, fx_length]) (by simp [bs, fx])
  go_enter Tryd.func20, Tryd.ntmps20
  go_wp2_with fail
  go_region_law (first
    | (refine step_append_any _ rfl (.tmp 61) (.tmp 63) _ rfl (w.heap.size + 1) 5 i0 _ 1 1 Tryd.underlying22 hi0 hz0 hz1 hz2 rfl (by omega) v1 n xs (by simp [Act.eval, Act.put])
        hown1 (w.heap.size + 1) (some ⟨w.heap.size, 0, none⟩) 0 8 (bs (fx 0 v)) (by simp [Act.eval, Act.put]) hrd (bs_one _) (by unfold maxLen; omega) (by omega) hsz ?_
       intro v2 w2 hown2 hg2 hat2)
    | (go_simp; go_at_call 29; refine (copied_any A n c 0 xs _ (by exact ((hr.alloc (Nat.le_refl _) _).more (by simp))) h1 (by omega)).mono ?_; rintro e w1 ⟨v1, rfl, hown1, hb1⟩
       simp only [World.size_drew, World.size_alloc] at hown1 hb1
       have hrd := hrd0.below hb1
       have hsz : w.heap.size + 1 ≤ w1.heap.size := by have := hb1.size; simpa using this
       show _))
  go_wp2_with fail
  go_ret
  exact ⟨v2, rfl, own_base hown2 (by omega), ((((Below.refl _ _).alloc (Nat.le_refl _) _).drew).trans (hb1.mono (by omega))).grown hg2 (by omega) (fun k hk => by have := (hown1.lt k hk).1; omega)⟩
theorem putFix_high (A : Option Addr) (n c v : Nat) (s : Int) (xs : List Value) (w : World) (hs : 8 < s) (hm : max s 0 = s) (hm2 : min s 8 = 8) (hv : v < 18446744073709551616) (hr : Reads w w.heap.size 1 A n xs) (h1 : ∀ u ∈ xs, u.oneCell' = true) (hb : n ≤ 140737488355300) :
    Calls Tryd.prog 20 #[.slice A n c, .int .u64 (v : Int), .int .i64 s] w (New w (xs ++ bs (fx 8 v)) (n + 8)) := by
  obtain ⟨i0, hi0, hz0, hz1, hz2⟩ := info_parts info_u8
  have hrd0 : Reads (w.alloc (.cells #[.int .u8 ((v : Int) % 256), .int .u8 ((v : Int) / 256 % 256), .int .u8 ((v : Int) / 65536 % 256), .int .u8 ((v : Int) / 16777216 % 256), .int .u8 ((v : Int) / 4294967296 % 256), .int .u8 ((v : Int) / 1099511627776 % 256), .int .u8 ((v : Int) / 281474976710656 % 256), .int .u8 ((v : Int) / 72057594037927936)] 60)).drew (w.heap.size + 1) 1 (some ⟨w.heap.size, 0, none⟩) 8 (bs (fx 8 v)) :=
    reads_blk (Blk.drew (Blk.new w _ _)) _ _ _ (by omega) (by simp [bs, fx_length]) (by simp [bs, fx, Nat.div_div_eq_div_mul]; omega)
  go_enter Tryd.func20, Tryd.ntmps20
  go_wp2_with fail
  go_region_law (first
    | (refine step_append_any _ rfl (.tmp 61) (.tmp 63) _ rfl (w.heap.size + 1) 5 i0 _ 1 1 Tryd.underlying22 hi0 hz0 hz1 hz2 rfl (by omega) v1 n xs (by simp [Act.eval, Act.put])
        hown1 (w.heap.size + 1) (some ⟨w.heap.size, 0, none⟩) 8 8 (bs (fx 8 v)) (by simp [Act.eval, Act.put]) hrd (bs_one _) (by unfold maxLen; omega) (by omega) hsz ?_
       intro v2 w2 hown2 hg2 hat2)
    | (go_simp; go_at_call 29; refine (copied_any A n c 8 xs _ (by exact ((hr.alloc (Nat.le_refl _) _).more (by simp))) h1 (by omega)).mono ?_; rintro e w1 ⟨v1, rfl, hown1, hb1⟩
       simp only [World.size_drew, World.size_alloc] at hown1 hb1
       have hrd := hrd0.below hb1
       have hsz : w.heap.size + 1 ≤ w1.heap.size := by have := hb1.size; simpa using this
       show _))
  go_wp2_with fail
  go_ret
  exact ⟨v2, rfl, own_base hown2 (by omega), ((((Below.refl _ _).alloc (Nat.le_refl _) _).drew).trans (hb1.mono (by omega))).grown hg2 (by omega) (fun k hk => by have := (hown1.lt k hk).1; omega)⟩

/-- How many bytes PutFix lays. -/
def fixSize (s : Int) : Nat := (min (max s 0) 8).toNat
theorem putFix_any (A : Option Addr) (n c v : Nat) (s : Int) (xs : List Value) (w : World) (hv : v < 18446744073709551616) (hr : Reads w w.heap.size 1 A n xs) (h1 : ∀ u ∈ xs, u.oneCell' = true) (hb : n ≤ 140737488355300) :
    Calls Tryd.prog 20 #[.slice A n c, .int .u64 (v : Int), .int .i64 s] w (New w (xs ++ bs (fx (fixSize s) v)) (n + fixSize s)) := by
  unfold fixSize
  rcases Int.lt_or_le s 0 with h | h
  · rw [show (min (max s 0) 8).toNat = 0 by omega]
    exact putFix_low A n c v s xs w h (by omega) hv hr h1 hb
  · rcases Int.lt_or_le 8 s with h8 | h8
    · rw [show (min (max s 0) 8).toNat = 8 by omega]
      exact putFix_high A n c v s xs w h8 (by omega) (by omega) hv hr h1 hb
    · obtain ⟨k, rfl⟩ := Int.eq_ofNat_of_zero_le h
      rw [show (min (max (k : Int) 0) 8).toNat = k by omega]
      have hk : k = 0 ∨ k = 1 ∨ k = 2 ∨ k = 3 ∨ k = 4 ∨ k = 5 ∨ k = 6 ∨ k = 7 ∨ k = 8 := by omega
      rcases hk with rfl | rfl | rfl | rfl | rfl | rfl | rfl | rfl | rfl
      · exact putFix_0 A n c v xs w hv hr h1 hb
      · exact putFix_1 A n c v xs w hv hr h1 hb
      · exact putFix_2 A n c v xs w hv hr h1 hb
      · exact putFix_3 A n c v xs w hv hr h1 hb
      · exact putFix_4 A n c v xs w hv hr h1 hb
      · exact putFix_5 A n c v xs w hv hr h1 hb
      · exact putFix_6 A n c v xs w hv hr h1 hb
      · exact putFix_7 A n c v xs w hv hr h1 hb
      · exact putFix_8 A n c v xs w hv hr h1 hb
end Go.Proofs.YtpibekpddbhojaaDoor
