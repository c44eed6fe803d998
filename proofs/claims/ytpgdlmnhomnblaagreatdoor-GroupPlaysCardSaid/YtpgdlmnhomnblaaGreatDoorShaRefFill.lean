import Derived.Test.YtpgdlmnhomnblaaGreatDoorJ25
namespace Go.Proofs.YtpgdlmnhomnblaaGreatDoor
open Go.RowKit
set_option linter.unusedVariables false
set_option linter.unusedSimpArgs false
set_option maxRecDepth 100000
theorem zsS_step (n j : Nat) (h : j < zsS n) : (n + 1 + j + 8) % 64 ≠ 0 := by unfold zsS at h; omega
theorem zsS_end (n : Nat) : (n + 1 + zsS n + 8) % 64 = 0 := by unfold zsS; omega
theorem zsS_lt (n : Nat) : zsS n < 64 := by unfold zsS; omega
theorem own_some {w : World} {base : Nat} {e : TypeId} {size : Nat} {v : Value} {n : Nat} {xs : List Value} (h : w.ownsRow base e size v n xs) : v.ownBlock = none ∨ ∃ g, v.ownBlock = some g ∧ base ≤ g ∧ g < w.heap.size := by
  cases hv : v.ownBlock with
  | none => exact .inl rfl
  | some g => exact .inr ⟨g, rfl, h.lt g hv⟩
theorem own_far_row {w w' : World} {base : Nat} {e : TypeId} {size : Nat} {v : Value} {n : Nat} {xs : List Value} {o : Obj} (h : w.ownsRow base e size v n xs) (hg : (w.alloc o).grownBy w' (some w.heap.size)) : w'.ownsRow base e size v n xs := by
  refine (h.alloc o).kept hg ?_
  rcases own_some h with hn | ⟨g, hv, _, hlt⟩
  · exact .inl hn
  · refine .inr ?_
    rw [hv]
    intro he
    injection he with he
    omega
set_option maxHeartbeats 4000000 in
theorem refFill_any (A : Option Addr) (n c : Nat) (L : List Nat) (w : World) (hr : Reads w w.heap.size 1 A n (bs L)) (hl : ∀ b ∈ L, b < 256) (hn : n ≤ 4294967296) :
    Calls Tryz.prog 98 #[.slice A n c] w (New w (bs (fillF L)) (n + (9 + zsS n))) := by
  obtain ⟨i0, hi0, hz0, hz1, hz2⟩ := info_parts info_u8
  have hlen : L.length = n := by have := hr.1; rw [bs_length] at this; omega
  have HLEN := Lib.hid hlen; clear hlen
  have hb0 : Below w.heap.size w (w.alloc (.cells #[] 5)) := (Below.refl _ _).alloc (Nat.le_refl _) _
  have HOWN := Lib.hid (World.ownsRow_made (base := w.heap.size) (e := 5) (size := 1) w #[] 0 (Nat.le_refl _) (by unfold maxLen; omega) (by simp))
  have HR := Lib.hid (hr.alloc (Nat.le_refl _) (.cells #[] 5)); clear hr
  go_enter Tryz.func98, Tryz.ntmps98
  go_wp2_with (first
    | (at_builtin
       refine wpList_append_any _ rfl (.tmp 7) (.tmp 8) _ rfl w.heap.size 5 i0 _ 1 1 Tryz.underlying66 hi0 hz0 hz1 hz2 rfl (by omega) (.slice (some ⟨w.heap.size, 0, none⟩) 0 0) 0 [] rfl
         HOWN.out w.heap.size A n c (bs L) rfl HR.out (bs_one _) (by unfold maxLen; omega) (by omega) (by simp) ?_
       intro v1 w1 hown1 hg1 hat1
       simp only [Nat.zero_add, List.nil_append] at hown1
       have hb1 : Below w.heap.size w w1 := hb0.grown hg1 (by simp) (fun k hk => by simp [Value.ownBlock] at hk; omega)
       obtain ⟨A1, c1, rfl, _⟩ := own_slice hown1
       have hsz1 := hb1.size
       have HOWN1 := Lib.hid (hown1.alloc (.cells #[.int .u8 128] 5))
       have HSZ1 := Lib.hid (show w.heap.size ≤ (w1.alloc (.cells #[.int .u8 128] 5)).heap.size by simp; omega)
       clear hg1 hat1 hown1 hb0)
    | (at_builtin
       refine wpList_append_any _ rfl (.tmp 9) (.tmp 10) _ rfl w.heap.size 5 i0 _ 1 1 Tryz.underlying66 hi0 hz0 hz1 hz2 rfl (by omega) (.slice A1 n c1) n _ rfl
         HOWN1.out (w1.heap.size + 1) (some ⟨w1.heap.size, 0, none⟩) 1 1 [.int .u8 128] rfl (Reads.new w1 _ _) (one_int _ _) (by unfold maxLen; omega) (by omega) HSZ1.out ?_
       intro v2 w2 hown2 hg2 hat2))
  have hb2 : Below w.heap.size w w2 := (hb1.alloc hb1.size _).grown hg2 HSZ1.out (fun k hk => (HOWN1.out.lt k hk).1)
  have HO2 := Lib.hid (show w2.ownsRow w.heap.size 5 1 v2 (n + 1 + 0) (bs (L ++ 128 :: List.replicate 0 0)) by
    have e : bs (L ++ 128 :: List.replicate 0 0) = bs L ++ [.int .u8 128] := by simp [bs]
    rw [e]; exact hown2)
  have HB2 := Lib.hid hb2
  obtain ⟨z, hz⟩ : ∃ z, zsS n = z := ⟨_, rfl⟩
  have hz64 : z < 64 := by rw [← hz]; exact zsS_lt n
  have hzstep : ∀ j, j < z → (n + 1 + j + 8) % 64 ≠ 0 := by intro j hj; exact zsS_step n j (by omega)
  have hzend : (n + 1 + z + 8) % 64 = 0 := by rw [← hz]; exact zsS_end n
  have HZ := Lib.hid hz; have HZS := Lib.hid hzstep; have HZE := Lib.hid hzend
  clear hz hzstep hzend hown2 hb1 hb2 hg2 hat2 HOWN1 HSZ1 HOWN HR
  go_loopg [3] z (fun g s3 wr => ∃ j : Nat, j + g = z ∧ Hid (wr.ownsRow w.heap.size 5 1 s3 (n + 1 + j) (bs (L ++ 128 :: List.replicate j 0))) ∧ Hid (Below w.heap.size w wr))
  case atStart => exact ⟨0, by omega, HO2, HB2⟩
  case round =>
    clear HO2 HB2
    obtain ⟨j, hjg, hown, hb⟩ := hrel
    obtain ⟨Av, cv, rfl, _⟩ := own_slice hown.out
    obtain ⟨m, hm⟩ : ∃ m, n + 1 + j = m := ⟨_, rfl⟩
    have hml : m ≤ 4294967400 := by omega
    have hown' := hown.out
    rw [hm] at hown' ⊢
    have HO := Lib.hid hown'
    clear hown hown'
    cases gk with
    | zero =>
      obtain rfl : j = z := by omega
      clear hjg
      have ht : (((m : Int) + 8) % 64 != 0) = false := by have := HZE.out; simp; omega
      have ht2 : (((m : Int) + 8) % 64 == 0) = true := by have := HZE.out; simp; omega
      have ht3 : ((m : Int) + 8) % 64 = 0 := by have := HZE.out; omega
      have HM := Lib.hid hm; clear hm
      obtain ⟨cc, hcc⟩ : ∃ c : Nat, n * 8 = c := ⟨_, rfl⟩
      have hcci : (n : Int) * 8 = (cc : Int) := by omega
      have hccl : cc ≤ 34359738368 := by omega
      have HC := Lib.hid hcc; clear hcc
      go_wp2_with fail
      clear ht ht2 ht3
      generalize ((m : Int) + 8) % 64 = q15
      go_loopg [4, 5, 6] 8 (fun g s4 s5 s6 wr => ∃ i : Nat, i + g = 8 ∧ s6 = .int .i64 (i : Int) ∧ s4 = .int .u64 ((cc / 256 ^ i : Nat) : Int) ∧ Hid (wr.ownsRow w.heap.size 5 1 s5 i (bs ((be8 cc).drop (8 - i)))) ∧ Hid (wr.ownsRow w.heap.size 5 1 (.slice Av m cv) m (bs (L ++ 128 :: List.replicate j 0))) ∧ Hid (Below w.heap.size w wr))
      case atStart => exact ⟨0, by omega, rfl, by first | rfl | (rw [hcci]; simp) | simp, Lib.hid (World.ownsRow_nil _ _ _ _), HO, hb⟩
      case round =>
        clear HO hb
        obtain ⟨i, hig, rfl, rfl, hown, ho, hb⟩ := hrel
        obtain ⟨At, ct, rfl, _, _, hrt⟩ := own_slice hown.out
        cases gk with
        | zero =>
          obtain rfl : i = 8 := by omega
          clear hig
          have HRT := Lib.hid hrt; clear hrt
          have HSZ := Lib.hid hb.out.size
          go_wp2_with (at_builtin
                       refine wpList_append_any _ rfl (.tmp 36) (.tmp 37) _ rfl w.heap.size 5 i0 _ 1 1 Tryz.underlying66 hi0 hz0 hz1 hz2 rfl (by omega) (.slice Av m cv) m _ rfl
                         ho.out wr.heap.size At 8 ct _ rfl HRT.out (bs_one _) (by unfold maxLen; omega) (by omega) HSZ.out ?_
                       intro v3 w3 hown3 hg3 hat3)
          go_ret
          have e : bs (L ++ 128 :: List.replicate j 0) ++ bs ((be8 cc).drop (8 - 8)) = bs (fillF L) := by
            rw [← bs_append]
            unfold fillF tailF
            rw [HLEN.out, HZ.out, ← HC.out]
            simp
          rw [e, show m + 8 = n + (9 + zsS n) by rw [HZ.out, ← HM.out]; omega] at hown3
          exact ⟨v3, rfl, hown3, hb.out.grown hg3 HSZ.out (fun k hk => (ho.out.lt k hk).1)⟩
        | succ g =>
          have hi : i = 0 ∨ i = 1 ∨ i = 2 ∨ i = 3 ∨ i = 4 ∨ i = 5 ∨ i = 6 ∨ i = 7 := by omega
          rcases hi with rfl | rfl | rfl | rfl | rfl | rfl | rfl | rfl
          · obtain ⟨x, hx⟩ : ∃ x : Nat, cc / 256 ^ 0 = x := ⟨_, rfl⟩
            have hxl : x ≤ 34359738368 := by rw [← hx]; exact Nat.le_trans (Nat.div_le_self _ _) hccl
            rw [hx]
            have HX := Lib.hid hx; clear hx
            have hv : (x : Int) % 256 = ((x % 256 : Nat) : Int) := by omega
            obtain ⟨y, hy⟩ : ∃ y : Nat, x % 256 = y := ⟨_, rfl⟩
            have hy256 : y < 256 := by omega
            rw [hy] at hv
            have HY := Lib.hid hy; clear hy
            have HO1 := Lib.hid (own_of_blkS (base := w.heap.size) (n := 1) (cap := 1) (Blk.new wr 5 #[.int .u8 (y : Int)]) hb.out.size (Nat.le_refl _) (by unfold maxLen; omega) rfl (xs := [.int .u8 (y : Int)]) rfl)
            have HSZ2 := Lib.hid (show w.heap.size ≤ (wr.alloc (.cells #[.int .u8 (y : Int)] 5)).heap.size by have := hb.out.size; simp; omega)
            have HRT := Lib.hid (hrt.alloc (Nat.le_refl _) (.cells #[.int .u8 (y : Int)] 5))
            clear hrt
            go_wp2_with (at_builtin
                         refine wpList_append_any _ rfl (.tmp 31) (.tmp 32) _ rfl w.heap.size 5 i0 _ 1 1 Tryz.underlying66 hi0 hz0 hz1 hz2 rfl (by omega) (.slice (some ⟨wr.heap.size, 0, none⟩) 1 1) 1 _ rfl
                           HO1.out wr.heap.size At 0 ct _ rfl HRT.out (bs_one _) (by unfold maxLen; omega) (by omega) HSZ2.out ?_
                         intro v3 w3 hown3 hg3 hat3)
            go_roundg g
            case measure => omega
            case rel =>
              refine ⟨1, by omega, by go_num, ?_, Lib.hid ?_, Lib.hid (own_far_row ho.out hg3), Lib.hid (((hb.out.alloc hb.out.size _).grown hg3 HSZ2.out (fun k hk => (HO1.out.lt k hk).1)))⟩
              · refine congrArg (Value.int .u64) ?_
                rw [Nat.pow_succ, ← Nat.div_div_eq_div_mul, HX.out, Int.natCast_ediv]
                rfl
              · have e : (be8 cc).drop (8 - 1) = [y] ++ (be8 cc).drop (8 - 0) := by
                  rw [← HY.out, ← HX.out]; simp [be8]
                rw [e, bs_append]
                exact hown3
          · obtain ⟨x, hx⟩ : ∃ x : Nat, cc / 256 ^ 1 = x := ⟨_, rfl⟩
            have hxl : x ≤ 34359738368 := by rw [← hx]; exact Nat.le_trans (Nat.div_le_self _ _) hccl
            rw [hx]
            have HX := Lib.hid hx; clear hx
            have hv : (x : Int) % 256 = ((x % 256 : Nat) : Int) := by omega
            obtain ⟨y, hy⟩ : ∃ y : Nat, x % 256 = y := ⟨_, rfl⟩
            have hy256 : y < 256 := by omega
            rw [hy] at hv
            have HY := Lib.hid hy; clear hy
            have HO1 := Lib.hid (own_of_blkS (base := w.heap.size) (n := 1) (cap := 1) (Blk.new wr 5 #[.int .u8 (y : Int)]) hb.out.size (Nat.le_refl _) (by unfold maxLen; omega) rfl (xs := [.int .u8 (y : Int)]) rfl)
            have HSZ2 := Lib.hid (show w.heap.size ≤ (wr.alloc (.cells #[.int .u8 (y : Int)] 5)).heap.size by have := hb.out.size; simp; omega)
            have HRT := Lib.hid (hrt.alloc (Nat.le_refl _) (.cells #[.int .u8 (y : Int)] 5))
            clear hrt
            go_wp2_with (at_builtin
                         refine wpList_append_any _ rfl (.tmp 31) (.tmp 32) _ rfl w.heap.size 5 i0 _ 1 1 Tryz.underlying66 hi0 hz0 hz1 hz2 rfl (by omega) (.slice (some ⟨wr.heap.size, 0, none⟩) 1 1) 1 _ rfl
                           HO1.out wr.heap.size At 1 ct _ rfl HRT.out (bs_one _) (by unfold maxLen; omega) (by omega) HSZ2.out ?_
                         intro v3 w3 hown3 hg3 hat3)
            go_roundg g
            case measure => omega
            case rel =>
              refine ⟨2, by omega, by go_num, ?_, Lib.hid ?_, Lib.hid (own_far_row ho.out hg3), Lib.hid (((hb.out.alloc hb.out.size _).grown hg3 HSZ2.out (fun k hk => (HO1.out.lt k hk).1)))⟩
              · refine congrArg (Value.int .u64) ?_
                rw [Nat.pow_succ, ← Nat.div_div_eq_div_mul, HX.out, Int.natCast_ediv]
                rfl
              · have e : (be8 cc).drop (8 - 2) = [y] ++ (be8 cc).drop (8 - 1) := by
                  rw [← HY.out, ← HX.out]; simp [be8]
                rw [e, bs_append]
                exact hown3
          · obtain ⟨x, hx⟩ : ∃ x : Nat, cc / 256 ^ 2 = x := ⟨_, rfl⟩
            have hxl : x ≤ 34359738368 := by rw [← hx]; exact Nat.le_trans (Nat.div_le_self _ _) hccl
            rw [hx]
            have HX := Lib.hid hx; clear hx
            have hv : (x : Int) % 256 = ((x % 256 : Nat) : Int) := by omega
            obtain ⟨y, hy⟩ : ∃ y : Nat, x % 256 = y := ⟨_, rfl⟩
            have hy256 : y < 256 := by omega
            rw [hy] at hv
            have HY := Lib.hid hy; clear hy
            have HO1 := Lib.hid (own_of_blkS (base := w.heap.size) (n := 1) (cap := 1) (Blk.new wr 5 #[.int .u8 (y : Int)]) hb.out.size (Nat.le_refl _) (by unfold maxLen; omega) rfl (xs := [.int .u8 (y : Int)]) rfl)
            have HSZ2 := Lib.hid (show w.heap.size ≤ (wr.alloc (.cells #[.int .u8 (y : Int)] 5)).heap.size by have := hb.out.size; simp; omega)
            have HRT := Lib.hid (hrt.alloc (Nat.le_refl _) (.cells #[.int .u8 (y : Int)] 5))
            clear hrt
            go_wp2_with (at_builtin
                         refine wpList_append_any _ rfl (.tmp 31) (.tmp 32) _ rfl w.heap.size 5 i0 _ 1 1 Tryz.underlying66 hi0 hz0 hz1 hz2 rfl (by omega) (.slice (some ⟨wr.heap.size, 0, none⟩) 1 1) 1 _ rfl
                           HO1.out wr.heap.size At 2 ct _ rfl HRT.out (bs_one _) (by unfold maxLen; omega) (by omega) HSZ2.out ?_
                         intro v3 w3 hown3 hg3 hat3)
            go_roundg g
            case measure => omega
            case rel =>
              refine ⟨3, by omega, by go_num, ?_, Lib.hid ?_, Lib.hid (own_far_row ho.out hg3), Lib.hid (((hb.out.alloc hb.out.size _).grown hg3 HSZ2.out (fun k hk => (HO1.out.lt k hk).1)))⟩
              · refine congrArg (Value.int .u64) ?_
                rw [Nat.pow_succ, ← Nat.div_div_eq_div_mul, HX.out, Int.natCast_ediv]
                rfl
              · have e : (be8 cc).drop (8 - 3) = [y] ++ (be8 cc).drop (8 - 2) := by
                  rw [← HY.out, ← HX.out]; simp [be8]
                rw [e, bs_append]
                exact hown3
          · obtain ⟨x, hx⟩ : ∃ x : Nat, cc / 256 ^ 3 = x := ⟨_, rfl⟩
            have hxl : x ≤ 34359738368 := by rw [← hx]; exact Nat.le_trans (Nat.div_le_self _ _) hccl
            rw [hx]
            have HX := Lib.hid hx; clear hx
            have hv : (x : Int) % 256 = ((x % 256 : Nat) : Int) := by omega
            obtain ⟨y, hy⟩ : ∃ y : Nat, x % 256 = y := ⟨_, rfl⟩
            have hy256 : y < 256 := by omega
            rw [hy] at hv
            have HY := Lib.hid hy; clear hy
            have HO1 := Lib.hid (own_of_blkS (base := w.heap.size) (n := 1) (cap := 1) (Blk.new wr 5 #[.int .u8 (y : Int)]) hb.out.size (Nat.le_refl _) (by unfold maxLen; omega) rfl (xs := [.int .u8 (y : Int)]) rfl)
            have HSZ2 := Lib.hid (show w.heap.size ≤ (wr.alloc (.cells #[.int .u8 (y : Int)] 5)).heap.size by have := hb.out.size; simp; omega)
            have HRT := Lib.hid (hrt.alloc (Nat.le_refl _) (.cells #[.int .u8 (y : Int)] 5))
            clear hrt
            go_wp2_with (at_builtin
                         refine wpList_append_any _ rfl (.tmp 31) (.tmp 32) _ rfl w.heap.size 5 i0 _ 1 1 Tryz.underlying66 hi0 hz0 hz1 hz2 rfl (by omega) (.slice (some ⟨wr.heap.size, 0, none⟩) 1 1) 1 _ rfl
                           HO1.out wr.heap.size At 3 ct _ rfl HRT.out (bs_one _) (by unfold maxLen; omega) (by omega) HSZ2.out ?_
                         intro v3 w3 hown3 hg3 hat3)
            go_roundg g
            case measure => omega
            case rel =>
              refine ⟨4, by omega, by go_num, ?_, Lib.hid ?_, Lib.hid (own_far_row ho.out hg3), Lib.hid (((hb.out.alloc hb.out.size _).grown hg3 HSZ2.out (fun k hk => (HO1.out.lt k hk).1)))⟩
              · refine congrArg (Value.int .u64) ?_
                rw [Nat.pow_succ, ← Nat.div_div_eq_div_mul, HX.out, Int.natCast_ediv]
                rfl
              · have e : (be8 cc).drop (8 - 4) = [y] ++ (be8 cc).drop (8 - 3) := by
                  rw [← HY.out, ← HX.out]; simp [be8]
                rw [e, bs_append]
                exact hown3
          · obtain ⟨x, hx⟩ : ∃ x : Nat, cc / 256 ^ 4 = x := ⟨_, rfl⟩
            have hxl : x ≤ 34359738368 := by rw [← hx]; exact Nat.le_trans (Nat.div_le_self _ _) hccl
            rw [hx]
            have HX := Lib.hid hx; clear hx
            have hv : (x : Int) % 256 = ((x % 256 : Nat) : Int) := by omega
            obtain ⟨y, hy⟩ : ∃ y : Nat, x % 256 = y := ⟨_, rfl⟩
            have hy256 : y < 256 := by omega
            rw [hy] at hv
            have HY := Lib.hid hy; clear hy
            have HO1 := Lib.hid (own_of_blkS (base := w.heap.size) (n := 1) (cap := 1) (Blk.new wr 5 #[.int .u8 (y : Int)]) hb.out.size (Nat.le_refl _) (by unfold maxLen; omega) rfl (xs := [.int .u8 (y : Int)]) rfl)
            have HSZ2 := Lib.hid (show w.heap.size ≤ (wr.alloc (.cells #[.int .u8 (y : Int)] 5)).heap.size by have := hb.out.size; simp; omega)
            have HRT := Lib.hid (hrt.alloc (Nat.le_refl _) (.cells #[.int .u8 (y : Int)] 5))
            clear hrt
            go_wp2_with (at_builtin
                         refine wpList_append_any _ rfl (.tmp 31) (.tmp 32) _ rfl w.heap.size 5 i0 _ 1 1 Tryz.underlying66 hi0 hz0 hz1 hz2 rfl (by omega) (.slice (some ⟨wr.heap.size, 0, none⟩) 1 1) 1 _ rfl
                           HO1.out wr.heap.size At 4 ct _ rfl HRT.out (bs_one _) (by unfold maxLen; omega) (by omega) HSZ2.out ?_
                         intro v3 w3 hown3 hg3 hat3)
            go_roundg g
            case measure => omega
            case rel =>
              refine ⟨5, by omega, by go_num, ?_, Lib.hid ?_, Lib.hid (own_far_row ho.out hg3), Lib.hid (((hb.out.alloc hb.out.size _).grown hg3 HSZ2.out (fun k hk => (HO1.out.lt k hk).1)))⟩
              · refine congrArg (Value.int .u64) ?_
                rw [Nat.pow_succ, ← Nat.div_div_eq_div_mul, HX.out, Int.natCast_ediv]
                rfl
              · have e : (be8 cc).drop (8 - 5) = [y] ++ (be8 cc).drop (8 - 4) := by
                  rw [← HY.out, ← HX.out]; simp [be8]
                rw [e, bs_append]
                exact hown3
          · obtain ⟨x, hx⟩ : ∃ x : Nat, cc / 256 ^ 5 = x := ⟨_, rfl⟩
            have hxl : x ≤ 34359738368 := by rw [← hx]; exact Nat.le_trans (Nat.div_le_self _ _) hccl
            rw [hx]
            have HX := Lib.hid hx; clear hx
            have hv : (x : Int) % 256 = ((x % 256 : Nat) : Int) := by omega
            obtain ⟨y, hy⟩ : ∃ y : Nat, x % 256 = y := ⟨_, rfl⟩
            have hy256 : y < 256 := by omega
            rw [hy] at hv
            have HY := Lib.hid hy; clear hy
            have HO1 := Lib.hid (own_of_blkS (base := w.heap.size) (n := 1) (cap := 1) (Blk.new wr 5 #[.int .u8 (y : Int)]) hb.out.size (Nat.le_refl _) (by unfold maxLen; omega) rfl (xs := [.int .u8 (y : Int)]) rfl)
            have HSZ2 := Lib.hid (show w.heap.size ≤ (wr.alloc (.cells #[.int .u8 (y : Int)] 5)).heap.size by have := hb.out.size; simp; omega)
            have HRT := Lib.hid (hrt.alloc (Nat.le_refl _) (.cells #[.int .u8 (y : Int)] 5))
            clear hrt
            go_wp2_with (at_builtin
                         refine wpList_append_any _ rfl (.tmp 31) (.tmp 32) _ rfl w.heap.size 5 i0 _ 1 1 Tryz.underlying66 hi0 hz0 hz1 hz2 rfl (by omega) (.slice (some ⟨wr.heap.size, 0, none⟩) 1 1) 1 _ rfl
                           HO1.out wr.heap.size At 5 ct _ rfl HRT.out (bs_one _) (by unfold maxLen; omega) (by omega) HSZ2.out ?_
                         intro v3 w3 hown3 hg3 hat3)
            go_roundg g
            case measure => omega
            case rel =>
              refine ⟨6, by omega, by go_num, ?_, Lib.hid ?_, Lib.hid (own_far_row ho.out hg3), Lib.hid (((hb.out.alloc hb.out.size _).grown hg3 HSZ2.out (fun k hk => (HO1.out.lt k hk).1)))⟩
              · refine congrArg (Value.int .u64) ?_
                rw [Nat.pow_succ, ← Nat.div_div_eq_div_mul, HX.out, Int.natCast_ediv]
                rfl
              · have e : (be8 cc).drop (8 - 6) = [y] ++ (be8 cc).drop (8 - 5) := by
                  rw [← HY.out, ← HX.out]; simp [be8]
                rw [e, bs_append]
                exact hown3
          · obtain ⟨x, hx⟩ : ∃ x : Nat, cc / 256 ^ 6 = x := ⟨_, rfl⟩
            have hxl : x ≤ 34359738368 := by rw [← hx]; exact Nat.le_trans (Nat.div_le_self _ _) hccl
            rw [hx]
            have HX := Lib.hid hx; clear hx
            have hv : (x : Int) % 256 = ((x % 256 : Nat) : Int) := by omega
            obtain ⟨y, hy⟩ : ∃ y : Nat, x % 256 = y := ⟨_, rfl⟩
            have hy256 : y < 256 := by omega
            rw [hy] at hv
            have HY := Lib.hid hy; clear hy
            have HO1 := Lib.hid (own_of_blkS (base := w.heap.size) (n := 1) (cap := 1) (Blk.new wr 5 #[.int .u8 (y : Int)]) hb.out.size (Nat.le_refl _) (by unfold maxLen; omega) rfl (xs := [.int .u8 (y : Int)]) rfl)
            have HSZ2 := Lib.hid (show w.heap.size ≤ (wr.alloc (.cells #[.int .u8 (y : Int)] 5)).heap.size by have := hb.out.size; simp; omega)
            have HRT := Lib.hid (hrt.alloc (Nat.le_refl _) (.cells #[.int .u8 (y : Int)] 5))
            clear hrt
            go_wp2_with (at_builtin
                         refine wpList_append_any _ rfl (.tmp 31) (.tmp 32) _ rfl w.heap.size 5 i0 _ 1 1 Tryz.underlying66 hi0 hz0 hz1 hz2 rfl (by omega) (.slice (some ⟨wr.heap.size, 0, none⟩) 1 1) 1 _ rfl
                           HO1.out wr.heap.size At 6 ct _ rfl HRT.out (bs_one _) (by unfold maxLen; omega) (by omega) HSZ2.out ?_
                         intro v3 w3 hown3 hg3 hat3)
            go_roundg g
            case measure => omega
            case rel =>
              refine ⟨7, by omega, by go_num, ?_, Lib.hid ?_, Lib.hid (own_far_row ho.out hg3), Lib.hid (((hb.out.alloc hb.out.size _).grown hg3 HSZ2.out (fun k hk => (HO1.out.lt k hk).1)))⟩
              · refine congrArg (Value.int .u64) ?_
                rw [Nat.pow_succ, ← Nat.div_div_eq_div_mul, HX.out, Int.natCast_ediv]
                rfl
              · have e : (be8 cc).drop (8 - 7) = [y] ++ (be8 cc).drop (8 - 6) := by
                  rw [← HY.out, ← HX.out]; simp [be8]
                rw [e, bs_append]
                exact hown3
          · obtain ⟨x, hx⟩ : ∃ x : Nat, cc / 256 ^ 7 = x := ⟨_, rfl⟩
            have hxl : x ≤ 34359738368 := by rw [← hx]; exact Nat.le_trans (Nat.div_le_self _ _) hccl
            rw [hx]
            have HX := Lib.hid hx; clear hx
            have hv : (x : Int) % 256 = ((x % 256 : Nat) : Int) := by omega
            obtain ⟨y, hy⟩ : ∃ y : Nat, x % 256 = y := ⟨_, rfl⟩
            have hy256 : y < 256 := by omega
            rw [hy] at hv
            have HY := Lib.hid hy; clear hy
            have HO1 := Lib.hid (own_of_blkS (base := w.heap.size) (n := 1) (cap := 1) (Blk.new wr 5 #[.int .u8 (y : Int)]) hb.out.size (Nat.le_refl _) (by unfold maxLen; omega) rfl (xs := [.int .u8 (y : Int)]) rfl)
            have HSZ2 := Lib.hid (show w.heap.size ≤ (wr.alloc (.cells #[.int .u8 (y : Int)] 5)).heap.size by have := hb.out.size; simp; omega)
            have HRT := Lib.hid (hrt.alloc (Nat.le_refl _) (.cells #[.int .u8 (y : Int)] 5))
            clear hrt
            go_wp2_with (at_builtin
                         refine wpList_append_any _ rfl (.tmp 31) (.tmp 32) _ rfl w.heap.size 5 i0 _ 1 1 Tryz.underlying66 hi0 hz0 hz1 hz2 rfl (by omega) (.slice (some ⟨wr.heap.size, 0, none⟩) 1 1) 1 _ rfl
                           HO1.out wr.heap.size At 7 ct _ rfl HRT.out (bs_one _) (by unfold maxLen; omega) (by omega) HSZ2.out ?_
                         intro v3 w3 hown3 hg3 hat3)
            go_roundg g
            case measure => omega
            case rel =>
              refine ⟨8, by omega, by go_num, ?_, Lib.hid ?_, Lib.hid (own_far_row ho.out hg3), Lib.hid (((hb.out.alloc hb.out.size _).grown hg3 HSZ2.out (fun k hk => (HO1.out.lt k hk).1)))⟩
              · refine congrArg (Value.int .u64) ?_
                rw [Nat.pow_succ, ← Nat.div_div_eq_div_mul, HX.out, Int.natCast_ediv]
                rfl
              · have e : (be8 cc).drop (8 - 8) = [y] ++ (be8 cc).drop (8 - 7) := by
                  rw [← HY.out, ← HX.out]; simp [be8]
                rw [e, bs_append]
                exact hown3
    | succ g =>
      have ht0 := HZS.out j (by omega)
      have ht : (((m : Int) + 8) % 64 != 0) = true := by simp; omega
      have ht2 : (((m : Int) + 8) % 64 == 0) = false := by simp; omega
      have HM := Lib.hid hm; clear hm ht0
      have HO1 := Lib.hid (HO.out.alloc (.cells #[.int .u8 0] 5))
      have HSZ2 := Lib.hid (show w.heap.size ≤ (wr.alloc (.cells #[.int .u8 0] 5)).heap.size by have := hb.out.size; simp; omega)
      go_wp2_with (at_builtin
                   refine wpList_append_any _ rfl (.tmp 17) (.tmp 18) _ rfl w.heap.size 5 i0 _ 1 1 Tryz.underlying66 hi0 hz0 hz1 hz2 rfl (by omega) (.slice Av m cv) m _ rfl
                     HO1.out (wr.heap.size + 1) (some ⟨wr.heap.size, 0, none⟩) 1 1 [.int .u8 0] rfl (Reads.new wr _ _) (one_int _ _) (by unfold maxLen; omega) (by omega) HSZ2.out ?_
                   intro v3 w3 hown3 hg3 hat3)
      go_roundg g
      case measure => omega
      case rel =>
        refine ⟨j + 1, by omega, Lib.hid ?_, Lib.hid (((hb.out.alloc hb.out.size _).grown hg3 HSZ2.out (fun k hk => (HO1.out.lt k hk).1)))⟩
        have e : L ++ 128 :: List.replicate (j + 1) 0 = (L ++ 128 :: List.replicate j 0) ++ [0] := by
          rw [List.replicate_succ']; simp
        rw [e, bs_append, show n + 1 + (j + 1) = m + 1 by rw [← HM.out]; omega]
        exact hown3
end Go.Proofs.YtpgdlmnhomnblaaGreatDoor
