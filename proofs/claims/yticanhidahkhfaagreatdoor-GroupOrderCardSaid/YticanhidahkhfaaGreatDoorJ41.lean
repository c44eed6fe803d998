import Derived.Test.YticanhidahkhfaaGreatDoorJ5
import Derived.Test.YticanhidahkhfaaGreatDoorJ40
namespace Go.Proofs.YticanhidahkhfaaGreatDoor
open Go.RowKit
set_option linter.unusedVariables false
set_option linter.unusedSimpArgs false
set_option maxRecDepth 100000
theorem Drawn.cellT {w w' : World} (h : Drawn w w') (ht : ShTab w) : ∀ i, i < 64 → w'.cell? ⟨1, i, none⟩ = some (.int .u32 (tabK.getD i 0 : Int)) := by
  obtain ⟨q, rfl⟩ := h
  exact ht.drewN q
theorem Drawn.cellB {w w' : World} (h : Drawn w w') {g : Nat} {t : TypeId} {cs : Array Value} (hb : Blk w g t cs) (i : Nat) {v : Value} (hv : cs[i]? = some v) : w'.cell? ⟨g, i, none⟩ = some v := by
  obtain ⟨q, rfl⟩ := h
  rw [(hb.drewN q).cell, hv]
theorem info_u32 : (Tryz.prog.info? 201).map (fun i => (i.zero, i.size, i.bytes)) = some (some (.int .u32 0), 1, 4) := by kernel_rfl
theorem agg_u32 (W : World) : (isAgg 201).run Tryz.prog W = .ok false W := by simp [isAgg, run_underlying Tryz.underlying201]
theorem size_u32 (W : World) : (Go.sizeOf 201).run Tryz.prog W = .ok 1 W := by
  obtain ⟨i0, hi0, hz0, hz1, hz2⟩ := info_parts info_u32
  simp [Go.sizeOf, typeInfo, hi0, hz1]
def BlockTo (w : World) (g : Nat) (s : S8) (o : Value) (n : Nat) (e : Ending) (w' : World) : Prop := e = .returned (.tuple #[]) ∧ Blk w' g 229 (workL s.list o n) ∧ w.grownBy w' (some g)
set_option maxHeartbeats 4000000 in
theorem block_any (g0' : Nat) (s : S8) (o : Value) (n : Nat) (A : Option Addr) (c : Nat) (l : List Nat) (w : World) (hW : Blk w g0' 229 (workL s.list o n)) (hs : s.ok)
    (hr : Reads w w.heap.size 1 A 64 (bs l)) (hl : ∀ b ∈ l, b < 256) (hc : 64 ≤ c) (ht : ShTab w) (hne : 1 ≠ g0') :
    Calls Tryz.prog 172 #[.pointer (some ⟨g0', 0, none⟩), .slice A 64 c] w (BlockTo w g0' (blk s l) o n) := by
  have hz := (zero_of_info info_words).1
  have hsz := Lib.hid (zero_of_info info_words).2
  have HL := Lib.hid hl; clear hl
  have HW := Lib.hid hW
  have hgl := hW.lt; clear hW
  have HT := Lib.hid ht; clear ht
  have HS := Lib.hid hs; clear hs
  go_enter Tryz.func172, Tryz.ntmps172
  go_wp2_with fail
  refine (words_any A c l w hr HL.out hc).mono ?_
  rintro e w1 ⟨rfl, hb1⟩
  have HB := Lib.hid (Blk.new w1 297 (Array.replicate 64 (.int .u32 0)))
  have hts := wV_size l 64
  go_wp2_with (refine wpList_store_row (by rfl) (.tmp 4) (.tmp 19) (by rfl) (by rfl) (by rfl) HB.out (by rw [wV_size]; exact hsz.out) (by rw [wV_size]; simp) (wV_one _ _) ?_)
  have hb2 : Below w.heap.size w ((w1.alloc (.cells (Array.replicate 64 (.int .u32 0)) 297)).setRow w1.heap.size (wV l 64)) := Below.row (hb1.alloc hb1.size _) hb1.size _
  have hB2 := HB.out.row (wV l 64)
  have hsz1 := hb1.size
  obtain ⟨w2, hw2⟩ : ∃ w2 : World, w2 = (w1.alloc (.cells (Array.replicate 64 (.int .u32 0)) 297)).setRow w1.heap.size (wV l 64) := ⟨_, rfl⟩
  rw [← hw2] at hb2 hB2
  rw [← hw2]
  obtain ⟨k, hk⟩ : ∃ k, k = w1.heap.size := ⟨_, rfl⟩
  rw [← hk] at hB2 hsz1
  rw [← hk]
  clear hw2 hz hts HB hb1 hk
  have hB2' := Lib.hid hB2; clear hB2
  have hT2 := HT.out.next hb2
  have hW2 := HW.out.below hb2 hgl
  obtain ⟨s1, hs1⟩ : ∃ s1 : S8, s1 = s := ⟨_, rfl⟩
  obtain ⟨a, b, c0, d, e, f, g0, h⟩ := s
  have HS1 := Lib.hid hs1; clear hs1
  have x0 := hW2.cell 0
  rw [workL_at (x := a) rfl] at x0
  have x1 := hW2.cell 1
  rw [workL_at (x := b) rfl] at x1
  have x2 := hW2.cell 2
  rw [workL_at (x := c0) rfl] at x2
  have x3 := hW2.cell 3
  rw [workL_at (x := d) rfl] at x3
  have x4 := hW2.cell 4
  rw [workL_at (x := e) rfl] at x4
  have x5 := hW2.cell 5
  rw [workL_at (x := f) rfl] at x5
  have x6 := hW2.cell 6
  rw [workL_at (x := g0) rfl] at x6
  have x7 := hW2.cell 7
  rw [workL_at (x := h) rfl] at x7
  have HW2 := Lib.hid hW2; clear hW2
  have HT2 := Lib.hid hT2; clear hT2
  have hok := HS.out
  rw [S8.ok_iff] at hok
  simp only at hok
  have HOK := Lib.hid hok; clear hok
  go_quiet (fail)
  go_wp2_with fail
  go_quiet (fail)
  go_wp2_with fail
  go_loopg [5, 6, 7, 8, 9, 10, 11, 12, 60] 64 (fun gk s5 s6 s7 s8 s9 s10 s11 s12 s60 wr => ∃ t a b c d e f g h : Nat, t + gk = 64 ∧ s60 = .int .i64 (t : Int) ∧ s5 = .int .u32 (a : Int) ∧ s6 = .int .u32 (b : Int) ∧ s7 = .int .u32 (c : Int) ∧ s8 = .int .u32 (d : Int) ∧ s9 = .int .u32 (e : Int) ∧ s10 = .int .u32 (f : Int) ∧ s11 = .int .u32 (g : Int) ∧ s12 = .int .u32 (h : Int) ∧ Hid ((⟨a, b, c, d, e, f, g, h⟩ : S8) = rnds s1 (wsN l 64) t) ∧ Hid (Drawn w2 wr))
  case atStart => exact ⟨0, a, b, c0, d, e, f, g0, h, by omega, rfl, rfl, rfl, rfl, rfl, rfl, rfl, rfl, rfl, Lib.hid (by rw [HS1.out]; rfl), Lib.hid (by first | exact ⟨_, rfl⟩ | exact (Drawn.one w2 _).more _)⟩
  case round =>
    obtain ⟨t, a, b, c, d, e, f, g, h, htg, rfl, rfl, rfl, rfl, rfl, rfl, rfl, rfl, rfl, hst, hdr⟩ := hrel
    cases gk with
    | zero =>
      obtain rfl : t = 64 := by omega
      clear htg x0 x1 x2 x3 x4 x5 x6 x7
      have hW3 : Blk wr g0' 229 (workL (mixL s1 ⟨a, b, c, d, e, f, g, h⟩ 0) o n) := by
        obtain ⟨q, hq⟩ := hdr.out
        rw [hq, mixL_zero, HS1.out]
        exact HW2.out.drewN q
      have hG3 : w.grownBy wr (some g0') := only_below (World.grownBy.refl w _) (hdr.out.below hb2)
      have HW3 := Lib.hid hW3; have HG3 := Lib.hid hG3
      clear hW3 hG3 hb2
      go_wp2_with fail
      go_loopg [132] 8 (fun gk s132 wr => ∃ i : Nat, i + gk = 8 ∧ s132 = .int .i64 (i : Int) ∧ Hid (Blk wr g0' 229 (workL (mixL s1 ⟨a, b, c, d, e, f, g, h⟩ i) o n)) ∧ Hid (w.grownBy wr (some g0')))
      case atStart => exact ⟨0, by omega, rfl, HW3, HG3⟩
      case round =>
        clear HW3 HG3 hdr
        obtain ⟨i, hig, rfl, hB, hG⟩ := hrel
        cases gk with
        | zero =>
          obtain rfl : i = 8 := by omega
          clear hig
          go_wp2_with fail
          go_end0
          refine ⟨rfl, ?_, hG.out⟩
          have hfin := hB.out
          rw [mixL_all, hst.out, HS1.out] at hfin
          exact hfin
        | succ gk =>
          have hi : i = 0 ∨ i = 1 ∨ i = 2 ∨ i = 3 ∨ i = 4 ∨ i = 5 ∨ i = 6 ∨ i = 7 := by omega
          rcases hi with rfl | rfl | rfl | rfl | rfl | rfl | rfl | rfl
          · have hx := hB.out.cell 0
            rw [workL_at (x := s1.a) rfl] at hx
            have hfz := hB.out.frozen 0
            have hw := wrap_ad s1.a a
            have hix := run_index_row (P := Tryz.prog) (t := 227) (cs := #[.int .u32 (a : Int), .int .u32 (b : Int), .int .u32 (c : Int), .int .u32 (d : Int), .int .u32 (e : Int), .int .u32 (f : Int), .int .u32 (g : Int), .int .u32 (h : Int)]) (i := 0) Tryz.underlying227 agg_u32 size_u32 (by omega) rfl
            rw [show ((0 : Nat) : Int) = 0 from rfl] at hix
            go_wp2_with fail
            refine wp_region_still_tail 11 (by kernel_rfl) (by kernel_rfl) ?_
            simp only [List.take_succ_cons, List.take_zero, List.drop_succ_cons, List.drop_zero]
            change wpStill _ _ wr.drew _ _ _
            repeat still_step
            refine wpStill_nil ?_
            go_wp2_with fail
            go_roundg gk
            case measure => omega
            case rel =>
              refine ⟨1, by omega, by go_num, Lib.hid ?_, Lib.hid (only_setCell (only_drewN hG.out 1) (.inl rfl) _)⟩
              have := hB.out.drew.set_ 0 (.int .u32 ((ad s1.a a : Nat) : Int))
              rw [workL_set _ (show 0 < 8 by decide)] at this
              exact this
          · have hx := hB.out.cell 1
            rw [workL_at (x := s1.b) rfl] at hx
            have hfz := hB.out.frozen 1
            have hw := wrap_ad s1.b b
            have hix := run_index_row (P := Tryz.prog) (t := 227) (cs := #[.int .u32 (a : Int), .int .u32 (b : Int), .int .u32 (c : Int), .int .u32 (d : Int), .int .u32 (e : Int), .int .u32 (f : Int), .int .u32 (g : Int), .int .u32 (h : Int)]) (i := 1) Tryz.underlying227 agg_u32 size_u32 (by omega) rfl
            rw [show ((1 : Nat) : Int) = 1 from rfl] at hix
            go_wp2_with fail
            refine wp_region_still_tail 11 (by kernel_rfl) (by kernel_rfl) ?_
            simp only [List.take_succ_cons, List.take_zero, List.drop_succ_cons, List.drop_zero]
            change wpStill _ _ wr.drew _ _ _
            repeat still_step
            refine wpStill_nil ?_
            go_wp2_with fail
            go_roundg gk
            case measure => omega
            case rel =>
              refine ⟨2, by omega, by go_num, Lib.hid ?_, Lib.hid (only_setCell (only_drewN hG.out 1) (.inl rfl) _)⟩
              have := hB.out.drew.set_ 1 (.int .u32 ((ad s1.b b : Nat) : Int))
              rw [workL_set _ (show 1 < 8 by decide)] at this
              exact this
          · have hx := hB.out.cell 2
            rw [workL_at (x := s1.c) rfl] at hx
            have hfz := hB.out.frozen 2
            have hw := wrap_ad s1.c c
            have hix := run_index_row (P := Tryz.prog) (t := 227) (cs := #[.int .u32 (a : Int), .int .u32 (b : Int), .int .u32 (c : Int), .int .u32 (d : Int), .int .u32 (e : Int), .int .u32 (f : Int), .int .u32 (g : Int), .int .u32 (h : Int)]) (i := 2) Tryz.underlying227 agg_u32 size_u32 (by omega) rfl
            rw [show ((2 : Nat) : Int) = 2 from rfl] at hix
            go_wp2_with fail
            refine wp_region_still_tail 11 (by kernel_rfl) (by kernel_rfl) ?_
            simp only [List.take_succ_cons, List.take_zero, List.drop_succ_cons, List.drop_zero]
            change wpStill _ _ wr.drew _ _ _
            repeat still_step
            refine wpStill_nil ?_
            go_wp2_with fail
            go_roundg gk
            case measure => omega
            case rel =>
              refine ⟨3, by omega, by go_num, Lib.hid ?_, Lib.hid (only_setCell (only_drewN hG.out 1) (.inl rfl) _)⟩
              have := hB.out.drew.set_ 2 (.int .u32 ((ad s1.c c : Nat) : Int))
              rw [workL_set _ (show 2 < 8 by decide)] at this
              exact this
          · have hx := hB.out.cell 3
            rw [workL_at (x := s1.d) rfl] at hx
            have hfz := hB.out.frozen 3
            have hw := wrap_ad s1.d d
            have hix := run_index_row (P := Tryz.prog) (t := 227) (cs := #[.int .u32 (a : Int), .int .u32 (b : Int), .int .u32 (c : Int), .int .u32 (d : Int), .int .u32 (e : Int), .int .u32 (f : Int), .int .u32 (g : Int), .int .u32 (h : Int)]) (i := 3) Tryz.underlying227 agg_u32 size_u32 (by omega) rfl
            rw [show ((3 : Nat) : Int) = 3 from rfl] at hix
            go_wp2_with fail
            refine wp_region_still_tail 11 (by kernel_rfl) (by kernel_rfl) ?_
            simp only [List.take_succ_cons, List.take_zero, List.drop_succ_cons, List.drop_zero]
            change wpStill _ _ wr.drew _ _ _
            repeat still_step
            refine wpStill_nil ?_
            go_wp2_with fail
            go_roundg gk
            case measure => omega
            case rel =>
              refine ⟨4, by omega, by go_num, Lib.hid ?_, Lib.hid (only_setCell (only_drewN hG.out 1) (.inl rfl) _)⟩
              have := hB.out.drew.set_ 3 (.int .u32 ((ad s1.d d : Nat) : Int))
              rw [workL_set _ (show 3 < 8 by decide)] at this
              exact this
          · have hx := hB.out.cell 4
            rw [workL_at (x := s1.e) rfl] at hx
            have hfz := hB.out.frozen 4
            have hw := wrap_ad s1.e e
            have hix := run_index_row (P := Tryz.prog) (t := 227) (cs := #[.int .u32 (a : Int), .int .u32 (b : Int), .int .u32 (c : Int), .int .u32 (d : Int), .int .u32 (e : Int), .int .u32 (f : Int), .int .u32 (g : Int), .int .u32 (h : Int)]) (i := 4) Tryz.underlying227 agg_u32 size_u32 (by omega) rfl
            rw [show ((4 : Nat) : Int) = 4 from rfl] at hix
            go_wp2_with fail
            refine wp_region_still_tail 11 (by kernel_rfl) (by kernel_rfl) ?_
            simp only [List.take_succ_cons, List.take_zero, List.drop_succ_cons, List.drop_zero]
            change wpStill _ _ wr.drew _ _ _
            repeat still_step
            refine wpStill_nil ?_
            go_wp2_with fail
            go_roundg gk
            case measure => omega
            case rel =>
              refine ⟨5, by omega, by go_num, Lib.hid ?_, Lib.hid (only_setCell (only_drewN hG.out 1) (.inl rfl) _)⟩
              have := hB.out.drew.set_ 4 (.int .u32 ((ad s1.e e : Nat) : Int))
              rw [workL_set _ (show 4 < 8 by decide)] at this
              exact this
          · have hx := hB.out.cell 5
            rw [workL_at (x := s1.f) rfl] at hx
            have hfz := hB.out.frozen 5
            have hw := wrap_ad s1.f f
            have hix := run_index_row (P := Tryz.prog) (t := 227) (cs := #[.int .u32 (a : Int), .int .u32 (b : Int), .int .u32 (c : Int), .int .u32 (d : Int), .int .u32 (e : Int), .int .u32 (f : Int), .int .u32 (g : Int), .int .u32 (h : Int)]) (i := 5) Tryz.underlying227 agg_u32 size_u32 (by omega) rfl
            rw [show ((5 : Nat) : Int) = 5 from rfl] at hix
            go_wp2_with fail
            refine wp_region_still_tail 11 (by kernel_rfl) (by kernel_rfl) ?_
            simp only [List.take_succ_cons, List.take_zero, List.drop_succ_cons, List.drop_zero]
            change wpStill _ _ wr.drew _ _ _
            repeat still_step
            refine wpStill_nil ?_
            go_wp2_with fail
            go_roundg gk
            case measure => omega
            case rel =>
              refine ⟨6, by omega, by go_num, Lib.hid ?_, Lib.hid (only_setCell (only_drewN hG.out 1) (.inl rfl) _)⟩
              have := hB.out.drew.set_ 5 (.int .u32 ((ad s1.f f : Nat) : Int))
              rw [workL_set _ (show 5 < 8 by decide)] at this
              exact this
          · have hx := hB.out.cell 6
            rw [workL_at (x := s1.g) rfl] at hx
            have hfz := hB.out.frozen 6
            have hw := wrap_ad s1.g g
            have hix := run_index_row (P := Tryz.prog) (t := 227) (cs := #[.int .u32 (a : Int), .int .u32 (b : Int), .int .u32 (c : Int), .int .u32 (d : Int), .int .u32 (e : Int), .int .u32 (f : Int), .int .u32 (g : Int), .int .u32 (h : Int)]) (i := 6) Tryz.underlying227 agg_u32 size_u32 (by omega) rfl
            rw [show ((6 : Nat) : Int) = 6 from rfl] at hix
            go_wp2_with fail
            refine wp_region_still_tail 11 (by kernel_rfl) (by kernel_rfl) ?_
            simp only [List.take_succ_cons, List.take_zero, List.drop_succ_cons, List.drop_zero]
            change wpStill _ _ wr.drew _ _ _
            repeat still_step
            refine wpStill_nil ?_
            go_wp2_with fail
            go_roundg gk
            case measure => omega
            case rel =>
              refine ⟨7, by omega, by go_num, Lib.hid ?_, Lib.hid (only_setCell (only_drewN hG.out 1) (.inl rfl) _)⟩
              have := hB.out.drew.set_ 6 (.int .u32 ((ad s1.g g : Nat) : Int))
              rw [workL_set _ (show 6 < 8 by decide)] at this
              exact this
          · have hx := hB.out.cell 7
            rw [workL_at (x := s1.h) rfl] at hx
            have hfz := hB.out.frozen 7
            have hw := wrap_ad s1.h h
            have hix := run_index_row (P := Tryz.prog) (t := 227) (cs := #[.int .u32 (a : Int), .int .u32 (b : Int), .int .u32 (c : Int), .int .u32 (d : Int), .int .u32 (e : Int), .int .u32 (f : Int), .int .u32 (g : Int), .int .u32 (h : Int)]) (i := 7) Tryz.underlying227 agg_u32 size_u32 (by omega) rfl
            rw [show ((7 : Nat) : Int) = 7 from rfl] at hix
            go_wp2_with fail
            refine wp_region_still_tail 11 (by kernel_rfl) (by kernel_rfl) ?_
            simp only [List.take_succ_cons, List.take_zero, List.drop_succ_cons, List.drop_zero]
            change wpStill _ _ wr.drew _ _ _
            repeat still_step
            refine wpStill_nil ?_
            go_wp2_with fail
            go_roundg gk
            case measure => omega
            case rel =>
              refine ⟨8, by omega, by go_num, Lib.hid ?_, Lib.hid (only_setCell (only_drewN hG.out 1) (.inl rfl) _)⟩
              have := hB.out.drew.set_ 7 (.int .u32 ((ad s1.h h : Nat) : Int))
              rw [workL_set _ (show 7 < 8 by decide)] at this
              exact this
    | succ gk =>
      have ht : t < 64 := by omega
      have ht2 : (t : Int) < 64 := by omega
      have hok := rnds_ok (s := s1) (by rw [HS1.out]; exact HS.out) (wsN l 64) t
      rw [← hst.out, S8.ok_iff] at hok
      simp only at hok
      obtain ⟨ba, bb, bc, bd, be, bf, bg, bh⟩ := hok
      have hdr2 := hdr.out
      have hk := hdr2.cellT HT2.out t ht
      have hx := hdr2.cellB hB2'.out t (wV_at l 64 t ht (Nat.le_refl _))
      clear hdr2
      have hnx : rnds s1 (wsN l 64) (t + 1) = rnd ⟨a, b, c, d, e, f, g, h⟩ (tabK.getD t 0) (wAt l t) := by
        rw [hst.out, ← wsN_getD l 64 t ht (Nat.le_refl _)]
        rfl
      generalize tabK.getD t 0 = kt at hk hnx
      generalize wAt l t = wt at hx hnx
      obtain ⟨m1, hm1, hm1'⟩ := bg1_bits e be
      obtain ⟨m2, n2, p2, hc1, hc2, hc3, hc4, hc5⟩ := ch_bits e f g be bf bg
      obtain ⟨m3, hm3, hm3'⟩ := bg0_bits a ba
      obtain ⟨m4, n4, p4, q4, hj1, hj2, hj3, hj4, hj5⟩ := maj_bits a b c ba bb bc
      unfold rnd uOf vOf at hnx
      simp only at hnx
      have hw1 := wrap_ad h (bg1 e)
      have hw2 := wrap_ad (ad h (bg1 e)) (ch e f g)
      have hw3 := wrap_ad (ad (ad h (bg1 e)) (ch e f g)) kt
      have hw4 := wrap_ad (ad (ad (ad h (bg1 e)) (ch e f g)) kt) wt
      generalize ad (ad (ad (ad h (bg1 e)) (ch e f g)) kt) wt = u at hw4 hnx
      have hw5 := wrap_ad (bg0 a) (maj a b c)
      generalize ad (bg0 a) (maj a b c) = v at hw5 hnx
      have hw6 := wrap_ad d u
      have hw7 := wrap_ad u v
      have HN := Lib.hid hnx; clear hnx hc3
      have HM3 := Lib.hid hm3; have HM3' := Lib.hid hm3'; have HJ1 := Lib.hid hj1; have HJ2 := Lib.hid hj2; have HJ3 := Lib.hid hj3; have HJ4 := Lib.hid hj4; have HJ5 := Lib.hid hj5
      have HW5 := Lib.hid hw5; have HW6 := Lib.hid hw6; have HW7 := Lib.hid hw7
      have HX := Lib.hid (And.intro x0 x1)
      clear hst bb bc bd bf bg bh hm3 hm3' hj1 hj2 hj3 hj4 hj5 hw5 hw6 hw7 x0 x1 x2 x3 x4 x5 x6 x7 hgl
      have hsg : IntKind.u32.signed = false := rfl
      have T6 := Lib.hid fun W => turned_6 e W be
      have T11 := Lib.hid fun W => turned_11 e W be
      have T25 := Lib.hid fun W => turned_25 e W be
      go_wp2_with fail
      go_quiet (first
        | (go_at_call 241; with_reducible first | exact quiet_wd0 (T6.out _) | exact quiet_wd0 (T11.out _) | exact quiet_wd0 (T25.out _) | exact quiet_wd (T6.out _) | exact quiet_wd (T11.out _) | exact quiet_wd (T25.out _)))
      have hm3 := HM3.out; have hm3' := HM3'.out; have hj1 := HJ1.out; have hj2 := HJ2.out; have hj3 := HJ3.out; have hj4 := HJ4.out; have hj5 := HJ5.out
      have hw5 := HW5.out; have hw6 := HW6.out; have hw7 := HW7.out
      clear hm1 hm1' hc1 hc2 hc4 hc5 hw1 hw2 hw3 hw4
      go_wp2_with fail
      refine (turned_2 a _ ba).mono ?_
      rintro _ _ ⟨rfl, rfl⟩
      go_wp2_with fail
      refine (turned_13 a _ ba).mono ?_
      rintro _ _ ⟨rfl, rfl⟩
      go_wp2_with fail
      refine (turned_22 a _ ba).mono ?_
      rintro _ _ ⟨rfl, rfl⟩
      go_wp2_with fail
      go_roundg gk
      case measure => omega
      case rel => exact ⟨t + 1, ad u v, a, b, c, ad d u, e, f, g, by omega, by go_num, rfl, rfl, rfl, rfl, rfl, rfl, rfl, rfl, Lib.hid HN.out.symm, Lib.hid (hdr.out.more _)⟩
end Go.Proofs.YticanhidahkhfaaGreatDoor
namespace Go.Proofs.YticanhidahkhfaaGreatDoor
open Go.RowKit
set_option linter.unusedVariables false
set_option linter.unusedSimpArgs false
set_option maxRecDepth 100000
def Else (w w' : World) (g : Nat) (r : Option Nat) : Prop := w.heap.size ≤ w'.heap.size ∧ ∀ k, k < w.heap.size → k ≠ g → some k ≠ r → w'.heap[k]? = w.heap[k]?
theorem Else.refl (w : World) (g : Nat) (r : Option Nat) : Else w w g r := ⟨Nat.le_refl _, fun _ _ _ _ => rfl⟩
theorem Else.obj {w w' w2 : World} {g : Nat} {r : Option Nat} (h : Else w w' g r) (hg : w'.grownBy w2 (some g)) : Else w w2 g r :=
  ⟨Nat.le_trans h.1 hg.size, fun k hk h1 h2 => (hg.block k (Nat.lt_of_lt_of_le hk h.1) (fun e => h1 (by injection e))).trans (h.2 k hk h1 h2)⟩
theorem Else.row {w w' w2 : World} {g : Nat} {r r' : Option Nat} (h : Else w w' g r) (hg : w'.grownBy w2 r') (hr : r' = r ∨ ∀ b, r' = some b → w.heap.size ≤ b) : Else w w2 g r :=
  ⟨Nat.le_trans h.1 hg.size, fun k hk h1 h2 => (hg.block k (Nat.lt_of_lt_of_le hk h.1) (fun e => by
    rcases hr with hr | hr
    · exact h2 (e.trans hr)
    · have := hr k e.symm; omega)).trans (h.2 k hk h1 h2)⟩
def MidS (w wr : World) (B g : Nat) (o : Value) (N : Nat) (M : List Nat) (gk : Nat) (v : Value) (r : Option Nat) : Prop :=
  ∃ (Lq q : List Nat) (A : Option Addr) (c : Nat), v = .slice A q.length c ∧ M = Lq ++ q ∧ Lq.length % 64 = 0 ∧ q.length / 64 = gk ∧ q.length ≤ c ∧ Pt wr g o A q.length q ∧ Wk wr B g o Lq N ∧ Below B w wr ∧ (Else w wr g r ∧ (o.ownBlock = r ∨ ∀ b, o.ownBlock = some b → w.heap.size ≤ b)) ∧ ∀ b ∈ q, b < 256
def AddTo (w : World) (B g : Nat) (o : Value) (M : List Nat) (N : Nat) (e : Ending) (w' : World) : Prop := e = .returned (.tuple #[]) ∧ ∃ o', Wk w' B g o' M N ∧ Below B w w' ∧ Else w w' g o.ownBlock
theorem ownS_cut (A : Option Addr) (n m c : Nat) : (Value.slice A n c).ownBlock = (Value.slice A m c).ownBlock := by cases A <;> rfl
theorem Wk.laid {w w3 : World} {B g : Nat} {o o3 : Value} {L p : List Nat} {N : Nat} (h : Wk w B g o L N) (hs : st8 (L ++ p) = st8 L) (ho : opn (L ++ p) = opn L ++ p) (hl : L.length % 64 + p.length = (L ++ p).length % 64) (hp : ∀ b ∈ p, b < 256)
    (hown : w3.ownsRow B 5 1 o3 (L.length % 64 + p.length) (bs (opn L) ++ bs p)) (hg : w.grownBy w3 o.ownBlock) (hat : o3.ownBlock = o.ownBlock ∨ o3.ownBlock = some w.heap.size) :
    Wk (w3.setCell ⟨g, 8, none⟩ o3) B g o3 (L ++ p) N := by
  have hfar : o3.ownBlock ≠ some g := by
    rcases hat with h1 | h1
    · rw [h1]; exact h.far
    · rw [h1]; intro e; injection e with e; have := h.lt; omega
  refine ⟨?_, ?_, hfar, h.base, ?_⟩
  · have hB := (h.blk.grown hg (fun e => h.far e.symm)).set_ 8 o3
    rw [workL_setOpen _ (list_length _)] at hB
    rw [hs]
    exact hB
  · rw [ho, bs_append, ← hl]
    refine hown.kept (row := some g) (only_setCell (World.grownBy.refl w3 _) (.inl rfl) _) (.inr hfar)
  · intro b hb
    rcases List.mem_append.1 hb with hb | hb
    · exact h.byte b hb
    · exact hp b hb
theorem opn_nil {L : List Nat} (h : L.length % 64 = 0) : opn L = [] := List.eq_nil_of_length_eq_zero (by rw [opn_length]; exact h)
theorem wk_block {w w2 : World} {B g : Nat} {o : Value} {L p : List Nat} {N : Nat} (h : Wk w B g o L N) (h0 : L.length % 64 = 0) (hl : p.length = 64) (hp : ∀ b ∈ p, b < 256)
    (hB : Blk w2 g 229 (workL (blk (st8 L) p).list o N)) (hg : w.grownBy w2 (some g)) : Wk w2 B g o (L ++ p) N := by
  obtain ⟨e1, e2⟩ := opn_full L p (by omega)
  rw [opn_nil h0, List.nil_append] at e1
  refine ⟨by rw [e1]; exact hB, ?_, h.far, h.base, ?_⟩
  · have ho := h.own
    rw [opn_nil h0] at ho
    rw [e2, show (L ++ p).length % 64 = L.length % 64 by rw [List.length_append]; omega]
    exact ho.kept hg (.inr h.far)
  · intro b hb
    rcases List.mem_append.1 hb with hb | hb
    · exact h.byte b hb
    · exact hp b hb
set_option maxHeartbeats 4000000 in
theorem add_tail (B g : Nat) (o : Value) (L p : List Nat) (A : Option Addr) (c N : Nat) (w : World) (hk : Wk w B g o L N) (h0 : L.length % 64 = 0) (hp : Pt w g o A p.length p) (hpl : ∀ b ∈ p, b < 256) (hc : p.length ≤ c) (hN : N + p.length ≤ 140737488355328) (hL : L.length + p.length ≤ 140737488355328)
    (ht : ShTab w) (htB : 1 < B) :
    Calls Tryz.prog 98 #[.pointer (some ⟨g, 0, none⟩), .slice A p.length c] w (AddTo w B g o (L ++ p) (N + p.length)) := by
  obtain ⟨i0, hi0, hz0, hz1, hz2⟩ := info_parts info_u8
  obtain ⟨n, hn⟩ : ∃ n, p.length = n := ⟨_, rfl⟩
  rw [hn] at hc hN hL hp ⊢
  obtain ⟨Ao, co, hoe, hr0, _, _⟩ := own_slice hk.own
  subst hoe
  have h9 := hk.blk.cell 9
  rw [workL_size (list_length _)] at h9
  have h8 := hk.blk.cell 8
  rw [workL_open (list_length _)] at h8
  have f9 := hk.blk.frozen 9
  rw [h0] at h8
  have HN := Lib.hid hn; have HK := Lib.hid hk; have HP := Lib.hid hp; have HPL := Lib.hid hpl; have HT := Lib.hid ht; have H0 := Lib.hid h0
  have hadd : (N : Int) + (n : Int) = ((N + n : Nat) : Int) := by omega
  have hk1 : Wk (w.setCell ⟨g, 9, none⟩ (.int .u64 ((N + n : Nat) : Int))) B g (.slice Ao (L.length % 64) co) L (N + n) := by
    refine ⟨?_, ?_, hk.far, hk.base, hk.byte⟩
    · have := hk.blk.set_ 9 (.int .u64 ((N + n : Nat) : Int))
      rwa [workL_setSize _ (list_length _)] at this
    · exact hk.own.kept (row := some g) (only_setCell (World.grownBy.refl w _) (.inl rfl) _) (.inr hk.far)
  have hp1 : Pt (w.setCell ⟨g, 9, none⟩ (.int .u64 ((N + n : Nat) : Int))) g (.slice Ao (L.length % 64) co) A n p := hp.grown (only_setCell (World.grownBy.refl w _) (.inl rfl) _)
  have hb1 : Below B w (w.setCell ⟨g, 9, none⟩ (.int .u64 ((N + n : Nat) : Int))) := (Below.refl _ _).setCell hk.base _
  have hc8 := hk1.blk.cell 8
  rw [workL_open (list_length _), h0] at hc8
  have HEL1 := Lib.hid ((Else.refl w g (Value.slice Ao (L.length % 64) co).ownBlock).obj (only_setCell (World.grownBy.refl w (some g)) (p := ⟨g, 9, none⟩) (.inl rfl) (.int .u64 ((N + n : Nat) : Int))))
  have HK1 := Lib.hid hk1; have HP1 := Lib.hid hp1; have HB1 := Lib.hid hb1
  have hdiv : n < 140737488355329 := by omega
  clear hn hk hp hpl ht h0 hk1 hp1 hb1 hr0
  obtain ⟨N2, hN2⟩ : ∃ N2 : Nat, N + n = N2 := ⟨_, rfl⟩
  rw [hN2] at hadd HK1 HP1 HB1 HEL1 hc8 ⊢
  have HN2 := Lib.hid hN2; clear hN2
  obtain ⟨w1, hw1⟩ : ∃ w1 : World, w1 = w.setCell ⟨g, 9, none⟩ (.int .u64 (N2 : Int)) := ⟨_, rfl⟩
  rw [← hw1] at HK1 HP1 HB1 HEL1 hc8
  have hw1' := hw1.symm
  clear hw1
  go_enter Tryz.func98, Tryz.ntmps98
  go_wp2_with fail
  have HMID := Lib.hid (show MidS w w1 B g (.slice Ao 0 co) N2 (L ++ p) (n / 64) (.slice A n c) (Value.slice Ao (L.length % 64) co).ownBlock from
    ⟨L, p, A, c, by rw [HN.out], rfl, H0.out, by rw [HN.out], by rw [HN.out]; exact hc, by rw [HN.out]; have := HP1.out; rw [H0.out] at this; exact this, by have := HK1.out; rw [H0.out] at this; exact this, HB1.out, ⟨HEL1.out, .inl (ownS_cut _ _ _ _)⟩, HPL.out⟩)
  have HMl := Lib.hid (show (L ++ p).length ≤ 140737488355328 by rw [List.length_append, HN.out]; omega)
  clear hc8 h8 h9 f9 hw1' HK1 HP1 HB1 HEL1 hadd
  go_loopg [1] (n / 64) (fun gk s1 wr => Hid (MidS w wr B g (.slice Ao 0 co) N2 (L ++ p) gk s1 (Value.slice Ao (L.length % 64) co).ownBlock))
  case atStart => exact HMID
  case round =>
    clear HMID
    obtain ⟨Lq, q, A2, c2, rfl, hM, hq0, hqg, hqc, hpt, hwk, hb, ⟨hel, hro⟩, hqb⟩ := hrel.out
    clear hrel
    have hh8 := hwk.blk.cell 8
    rw [workL_open (list_length _)] at hh8
    have hBs : B ≤ wr.heap.size := Nat.le_trans hwk.base (Nat.le_of_lt hwk.lt)
    have hq47 : q.length ≤ 140737488355328 := by have h1 := congrArg List.length hM; have h2 := HMl.out; simp only [List.length_append] at h1 h2; omega
    cases gk with
    | zero =>
      have hq : (q.length : Int) < 64 := by omega
      have hq2 : q.length < 64 := by omega
      have HO := Lib.hid (show wr.ownsRow B 5 1 (.slice Ao 0 co) 0 [] by
        have := hwk.own
        rw [opn_nil hq0, hq0] at this
        exact this)
      have HR := Lib.hid hpt.1
      have HWK := Lib.hid hwk
      have HBL := Lib.hid hb
      have HEL := Lib.hid (And.intro hel hro)
      clear hel hro
      have HM2 := Lib.hid hM
      clear hwk hpt hb hM
      go_wp2_with (at_builtin
                   refine wpList_append_any _ rfl (.tmp 77) (.tmp 78) _ rfl B 5 i0 _ 1 1 Tryz.underlying48 hi0 hz0 hz1 hz2 rfl (by omega) (.slice Ao 0 co) 0 [] rfl
                     HO.out wr.heap.size A2 q.length c2 (bs q) rfl HR.out (bs_one _) (by unfold maxLen; omega) (by omega) hBs ?_
                   intro v3 w3 hown3 hg3 hat3
                   simp only [Nat.zero_add, List.nil_append] at hown3
                   obtain ⟨A3, c3, rfl, _⟩ := own_slice hown3
                   have hB3 := HWK.out.blk.grown hg3 (fun e => HWK.out.far e.symm)
                   have hk8 := hB3.cell 8
                   rw [workL_open (list_length _)] at hk8
                   have hf8 := hB3.frozen 8)
      go_end0
      obtain ⟨e1, e2⟩ := opn_more Lq q (by omega)
      have hlaid := HWK.out.laid e1 e2 (by rw [List.length_append]; omega) hqb (by rw [opn_nil hq0, hq0, Nat.zero_add]; exact hown3) hg3 hat3
      rw [← HM2.out] at hlaid
      exact ⟨rfl, .slice A3 q.length c3, by exact hlaid, ((HBL.out.grown hg3 hBs (fun k hk => (HO.out.lt k hk).1)).setCell HWK.out.base _), (HEL.out.1.row hg3 HEL.out.2).obj (only_setCell (World.grownBy.refl w3 (some g)) (.inl rfl) _)⟩
    | succ gk =>
      have hq64 : 64 ≤ q.length := by omega
      have hq : (64 : Int) ≤ (q.length : Int) := by omega
      have hqci : (64 : Int) ≤ (c2 : Int) := by omega
      have hcall := block_any g (st8 Lq) (.slice Ao 0 co) N2 A2 64 (q.take 64) wr hwk.blk hwk.ok (hpt.fore hq64).1 (fun b hb => hqb b (List.mem_of_mem_take hb)) (Nat.le_refl _) (HT.out.below hb htB) (by have := hwk.base; omega)
      have HC := Lib.hid hcall
      have HCUT := Lib.hid (fun w2 (hg : wr.grownBy w2 (some g)) => (hpt.cut (k := 64) hq64 hqc).grown hg)
      have HWK := Lib.hid hwk
      have HBL := Lib.hid hb
      have HEL := Lib.hid (And.intro hel hro)
      clear hel hro
      have HM2 := Lib.hid hM
      clear hcall hwk hpt hb hM
      by_cases hc64 : c2 = 64
      · subst hc64
        go_wp2_with fail
        refine HC.out.mono ?_
        rintro _ w2 ⟨rfl, hB2, hg2⟩
        go_wp2_with fail
        have hcut := HCUT.out w2 hg2
        simp only [if_true] at hcut
        go_roundg gk
        case measure => omega
        case rel =>
          refine Lib.hid ⟨Lq ++ q.take 64, q.drop 64, A2, 0, by rw [List.length_drop, show q.length - 64 = 0 by omega], by rw [HM2.out, List.append_assoc, List.take_append_drop], by rw [List.length_append, List.length_take]; omega, by rw [List.length_drop]; omega, by rw [List.length_drop]; omega, by rw [List.length_drop]; exact hcut, wk_block HWK.out hq0 (by rw [List.length_take]; omega) (fun b hb => hqb b (List.mem_of_mem_take hb)) hB2 hg2, HBL.out.grown hg2 hBs (fun k hk => by injection hk with hk; subst hk; exact HWK.out.base), ⟨HEL.out.1.obj hg2, HEL.out.2⟩, fun b hb => hqb b (List.mem_of_mem_drop hb)⟩
      · go_wp2_with fail
        refine HC.out.mono ?_
        rintro _ w2 ⟨rfl, hB2, hg2⟩
        go_wp2_with fail
        have hcut := HCUT.out w2 hg2
        rw [if_neg hc64] at hcut
        go_roundg gk
        case measure => omega
        case rel =>
          refine Lib.hid ⟨Lq ++ q.take 64, q.drop 64, A2.map (·.add 64), c2 - 64, by rw [List.length_drop]; first | rfl | simp [Addr.add], by rw [HM2.out, List.append_assoc, List.take_append_drop], by rw [List.length_append, List.length_take]; omega, by rw [List.length_drop]; omega, by rw [List.length_drop]; omega, by rw [List.length_drop]; exact hcut, wk_block HWK.out hq0 (by rw [List.length_take]; omega) (fun b hb => hqb b (List.mem_of_mem_take hb)) hB2 hg2, HBL.out.grown hg2 hBs (fun k hk => by injection hk with hk; subst hk; exact HWK.out.base), ⟨HEL.out.1.obj hg2, HEL.out.2⟩, fun b hb => hqb b (List.mem_of_mem_drop hb)⟩
end Go.Proofs.YticanhidahkhfaaGreatDoor
