/- The walk of the statement NumPuts: for all bytes, numbers and sizes it answers true, and nothing that was there changes. -/
import Derived.Test.YtphecljgbnkmlaaRef
import Derived.Test.YtphecljgbnkmlaaAwake
namespace Go.Proofs.Ytphecljgbnkmlaa
open Go.RowKit
set_option linter.unusedVariables false
set_option maxRecDepth 100000

theorem New.opened {w w' : World} {xs : List Value} {n : Nat} {e : Ending} (h : New w xs n e w') : ∃ A c, e = .returned (.slice A n c) ∧ Reads w' w'.heap.size 1 A n xs ∧ Below w.heap.size w w' := by
  obtain ⟨v, rfl, hown, hb⟩ := h
  obtain ⟨A, c, rfl, _, _, hr⟩ := own_slice hown
  exact ⟨A, c, rfl, hr, hb⟩

theorem Reads.next {w w' : World} {size n : Nat} {A : Option Addr} {xs : List Value} (h : Reads w w.heap.size size A n xs) (hb : Below w.heap.size w w') : Reads w' w'.heap.size size A n xs :=
  (h.below hb).more hb.size
/-- What stands while the statement runs: its two slices, the copy of the first one, and the cell in which the first one lies. -/
structure Stands (W : World) (cb : Nat) (A A' A1 : Option Addr) (n c m : Nat) (lb lp : List Nat) : Prop where
  rin : Reads W W.heap.size 1 A1 n (bs lb)
  rb : Reads W W.heap.size 1 A n (bs lb)
  rp : Reads W W.heap.size 1 A' m (bs lp)
  cell : W.cell? ⟨cb, 0, none⟩ = some (.slice A n c)
theorem Stands.next {W W' : World} {cb : Nat} {A A' A1 : Option Addr} {n c m : Nat} {lb lp : List Nat} (h : Stands W cb A A' A1 n c m lb lp) (hb : Below W.heap.size W W') : Stands W' cb A A' A1 n c m lb lp :=
  ⟨h.rin.next hb, h.rb.next hb, h.rp.next hb, (hb.cell (World.block_lt_of_cell? _ _ h.cell)).trans h.cell⟩
theorem same_two {A A' : Option Addr} {n c m c' : Nat} {l l' : List Nat} {w : World} (h1 : Reads w w.heap.size 1 A n (bs l ++ bs l')) (h2 : Reads w w.heap.size 1 A' m (bs l ++ bs l')) (hn : n ≤ 140737488355328) :
    Calls Try.prog 7 #[.slice A n c, .slice A' m c'] w fun e w' => e = .returned (.bool true) ∧ Below w.heap.size w w' :=
  (same_true A A' n c m c' (l ++ l') w (by rw [bs_append]; exact h1) (by rw [bs_append]; exact h2) hn).mono fun e w' ⟨he, hd⟩ => ⟨he, hd.below (Below.refl _ _)⟩

set_option maxHeartbeats 400000 in
theorem numPuts_big (A A' : Option Addr) (n c m c' v : Nat) (s k : Int) (w : World) (h : 300 < n ∨ 300 < m) :
    Calls Try.prog 3 #[.slice A n c, .slice A' m c', .int .u64 (v : Int), .int .i64 s, .int .i64 k] w fun e w' => e = .returned (.bool true) ∧ Below w.heap.size w w' := by
  by_cases h1 : 300 < n
  · go_enter Try.func3, Try.ntmps3
    go_wp2_with (go_at_call 5; refine (awake_any _).mono ?_; rintro e w5 ⟨rfl, hb5⟩)
    go_ret
    exact ⟨rfl, ((Below.refl _ _).alloc (Nat.le_refl _) _).trans (hb5.mono (by simp))⟩
  · have h2 : 300 < m := by omega
    go_enter Try.func3, Try.ntmps3
    go_wp2_with (go_at_call 5; refine (awake_any _).mono ?_; rintro e w5 ⟨rfl, hb5⟩)
    go_ret
    exact ⟨rfl, ((Below.refl _ _).alloc (Nat.le_refl _) _).trans (hb5.mono (by simp))⟩

set_option maxHeartbeats 1000000 in
theorem numPuts_small (A A' : Option Addr) (n c m c' v : Nat) (s k : Int) (lb lp : List Nat) (w : World) (hn : n ≤ 300) (hm : m ≤ 300) (hv : v < 18446744073709551616) (hs : s ≤ 9223372036854775807)
    (hk1 : -9223372036854775808 ≤ k) (hk2 : k ≤ 9223372036854775807) (hr : Reads w w.heap.size 1 A n (bs lb)) (hp : Reads w w.heap.size 1 A' m (bs lp)) :
    Calls Try.prog 3 #[.slice A n c, .slice A' m c', .int .u64 (v : Int), .int .i64 s, .int .i64 k] w fun e w' => e = .returned (.bool true) ∧ Below w.heap.size w w' := by
  obtain ⟨i0, hi0, hz0, hz1, hz2⟩ := info_parts info_u8
  have hS : fixSize s ≤ 8 := by unfold fixSize; omega
  have hV := vb_length v
  have hown0 := own_new (w.alloc (.cells #[.slice A n c] 22)) #[] 0 5 [] (by unfold maxLen; omega) rfl rfl
  simp only [World.size_alloc] at hown0
  have hrr : Reads ((w.alloc (.cells #[.slice A n c] 22)).alloc (.cells #[] 5)) w.heap.size 1 A n (bs lb) := (hr.alloc (Nat.le_refl _) _).alloc (by simp) _
  have hpp : Reads ((w.alloc (.cells #[.slice A n c] 22)).alloc (.cells #[] 5)) w.heap.size 1 A' m (bs lp) := (hp.alloc (Nat.le_refl _) _).alloc (by simp) _
  have hbox : Blk ((w.alloc (.cells #[.slice A n c] 22)).alloc (.cells #[] 5)) w.heap.size 22 #[.slice A n c] := (Blk.new w _ _).alloc _
  have hb00 : Below w.heap.size w ((w.alloc (.cells #[.slice A n c] 22)).alloc (.cells #[] 5)) := ((Below.refl _ _).alloc (Nat.le_refl _) _).alloc (by simp) _
  go_enter Try.func3, Try.ntmps3
  go_wp2_with (at_builtin
               refine wpList_append_any _ rfl (.tmp 23) (.tmp 24) _ rfl (w.heap.size + 1) 5 i0 _ 1 1 Try.underlying22 hi0 hz0 hz1 hz2 rfl (by omega) (.slice (some ⟨w.heap.size + 1, 0, none⟩) 0 0) 0 [] rfl
                 hown0 w.heap.size A n c (bs lb) rfl hrr (bs_one _) (by unfold maxLen; omega) (by omega) (by simp) ?_
               intro v1 w1 hown1 hg1 hat1
               simp only [Nat.zero_add, List.nil_append] at hown1
               obtain ⟨A1, c1, rfl, _, _, hr1⟩ := own_slice hown1)
  have hb1 : Below w.heap.size w w1 := hb00.grown hg1 (by simp; omega) (fun k hk => by simp [Value.ownBlock] at hk; omega)
  have hBL : (blob lp).length ≤ 310 := by
    have h1 := hp.1; rw [bs_length] at h1; rw [blob_length]; have := vb_length lp.length; omega
  have hb1' : Below (w.heap.size + 1) ((w.alloc (.cells #[.slice A n c] 22)).alloc (.cells #[] 5)) w1 := (Below.refl _ _).grown hg1 (by simp) (fun k hk => by simp [Value.ownBlock] at hk; omega)
  have S1 : Stands w1 w.heap.size A A' A1 n c m lb lp := ⟨hr1, (hr.below hb1).more hb1.size, (hp.below hb1).more hb1.size, (hb1'.cell (p := ⟨w.heap.size, 0, none⟩) (by simp)).trans (by rw [hbox.cell]; rfl)⟩
  clear hown0 hrr hpp hbox hb00 hown1 hg1 hat1 hb1' hr1 hr hp
  refine (putVar_any A1 n c1 v (bs lb) w1 hv S1.rin (bs_one _) (by omega)).mono ?_
  intro e2 w2 h2
  obtain ⟨A2, c2, rfl, hr2, hb2⟩ := h2.opened
  clear h2
  have S2 := S1.next hb2
  have hb02 := hb1.trans (hb2.mono hb1.size)
  go_wp2_with fail
  refine (refVar_any v w2 hv).mono ?_
  intro e3 w3 h3
  obtain ⟨A3, c3, rfl, hr3, hb3⟩ := h3.opened
  clear h3
  have S3 := S2.next hb3
  have hb03 := hb02.trans (hb3.mono hb02.size)
  go_wp2_with fail
  refine (front_any ⟨w.heap.size, 0, none⟩ A A3 n c _ c3 (bs lb) (bs (vb v)) w3 S3.cell S3.rb (bs_one _) hr3 (bs_one _) (by omega)).mono ?_
  intro e4 w4 h4
  obtain ⟨A4, c4, rfl, hr4, hb4⟩ := h4.opened
  clear h4
  have S4 := S3.next hb4
  have hb04 := hb03.trans (hb4.mono hb03.size)
  go_wp2_with fail
  refine (same_two (((hr2.next hb3).next hb4)) hr4 (by omega)).mono ?_
  rintro e5 w5 ⟨rfl, hb5⟩
  have S5 := S4.next hb5
  have hb05 := hb04.trans (hb5.mono hb04.size)
  go_wp2_with fail
  refine (putFix_any A1 n c1 v s (bs lb) w5 hv S5.rin (bs_one _) (by omega)).mono ?_
  intro e6 w6 h6
  obtain ⟨A6, c6, rfl, hr6, hb6⟩ := h6.opened
  clear h6
  have S6 := S5.next hb6
  have hb06 := hb05.trans (hb6.mono hb05.size)
  go_wp2_with fail
  refine (refFix_any v s w6 hv hs).mono ?_
  intro e7 w7 h7
  obtain ⟨A7, c7, rfl, hr7, hb7⟩ := h7.opened
  clear h7
  have S7 := S6.next hb7
  have hb07 := hb06.trans (hb7.mono hb06.size)
  go_wp2_with fail
  refine (front_any ⟨w.heap.size, 0, none⟩ A A7 n c _ c7 (bs lb) (bs (fx (fixSize s) v)) w7 S7.cell S7.rb (bs_one _) hr7 (bs_one _) (by omega)).mono ?_
  intro e8 w8 h8
  obtain ⟨A8, c8, rfl, hr8, hb8⟩ := h8.opened
  clear h8
  have S8 := S7.next hb8
  have hb08 := hb07.trans (hb8.mono hb07.size)
  go_wp2_with fail
  refine (same_two (((hr6.next hb7).next hb8)) hr8 (by omega)).mono ?_
  rintro e9 w9 ⟨rfl, hb9⟩
  have S9 := S8.next hb9
  have hb09 := hb08.trans (hb9.mono hb08.size)
  go_wp2_with fail
  refine (putBlob_any A1 A' n c1 m c' (bs lb) lp w9 S9.rin (bs_one _) S9.rp (by omega)).mono ?_
  intro e10 w10 h10
  obtain ⟨A10, c10, rfl, hr10, hb10⟩ := h10.opened
  clear h10
  have S10 := S9.next hb10
  have hb010 := hb09.trans (hb10.mono hb09.size)
  go_wp2_with fail
  refine (refBlob_any A' m c' lp w10 S10.rp (by omega)).mono ?_
  intro e11 w11 h11
  obtain ⟨A11, c11, rfl, hr11, hb11⟩ := h11.opened
  clear h11
  have S11 := S10.next hb11
  have hb011 := hb010.trans (hb11.mono hb010.size)
  go_wp2_with fail
  refine (front_any ⟨w.heap.size, 0, none⟩ A A11 n c _ c11 (bs lb) (bs (blob lp)) w11 S11.cell S11.rb (bs_one _) hr11 (bs_one _) (by omega)).mono ?_
  intro e12 w12 h12
  obtain ⟨A12, c12, rfl, hr12, hb12⟩ := h12.opened
  clear h12
  have S12 := S11.next hb12
  have hb012 := hb011.trans (hb12.mono hb011.size)
  go_wp2_with fail
  refine (same_two (((hr10.next hb11).next hb12)) hr12 (by omega)).mono ?_
  rintro e13 w13 ⟨rfl, hb13⟩
  have S13 := S12.next hb13
  have hb013 := hb012.trans (hb13.mono hb012.size)
  go_wp2_with fail
  have hcl := S13.cell
  refine (zig_any k _ hk1 hk2).mono ?_
  rintro _ _ ⟨rfl, rfl⟩
  go_wp2_with fail
  refine (refZig_any k _ hk1 hk2).mono ?_
  rintro _ _ ⟨rfl, rfl⟩
  go_wp2_with fail
  refine (zag_any v _ hv).mono ?_
  rintro _ _ ⟨rfl, rfl⟩
  go_wp2_with fail
  refine (refZag_any v _ hv).mono ?_
  rintro _ _ ⟨rfl, rfl⟩
  go_wp2_with fail
  refine (same_true A1 A n c1 n c lb w13 S13.rin S13.rb (by omega)).mono ?_
  rintro _ wS ⟨rfl, hd⟩
  have hbS := hd.below (Below.refl w13.heap.size w13)
  have hb0S := hb013.trans (hbS.mono hb013.size)
  go_wp2_with fail
  refine (awake_any _).mono ?_
  rintro _ wA ⟨rfl, hbA⟩
  go_wp2_with fail
  go_ret
  exact ⟨rfl, hb0S.trans (hbA.mono hb0S.size)⟩
end Go.Proofs.Ytphecljgbnkmlaa
