/- The walk of the statement RunsParts: two parts have as many runs as both, or one less: just where the one ends with the number that the other begins with. -/
import Derived.BigQuiet
import Derived.Test.YtlonaeonndjmmaaRnAwake
import Derived.Test.YtlonaeonndjmmaaRnCount
import Derived.Test.YtlonaeonndjmmaaI64Row
namespace Go.Proofs.Ytlonaeonndjmmaa
open Go.RowKit
set_option linter.unusedVariables false
set_option linter.unusedSimpArgs false
set_option maxRecDepth 100000

theorem rnParts_else (A1 A2 : Option Addr) (n1 c1 n2 c2 : Nat) (w : World) (h : 300 < n1 ∨ 300 < n2) :
    Calls Try.prog 4 #[.slice A1 n1 c1, .slice A2 n2 c2] w fun e w' => e = .returned (.bool true) ∧ Below w.heap.size w w' := by
  by_cases h1 : 300 < n1
  · clear h
    go_enter Try.func4, Try.ntmps4
    go_wp2_with fail
    refine (rnAwake_any w).mono ?_
    rintro e w1 ⟨rfl, hb⟩
    go_wp2_with fail
    go_ret
    exact ⟨rfl, hb⟩
  · have h2 : 300 < n2 := by omega
    clear h
    go_enter Try.func4, Try.ntmps4
    go_wp2_with fail
    refine (rnAwake_any w).mono ?_
    rintro e w1 ⟨rfl, hb⟩
    go_wp2_with fail
    go_ret
    exact ⟨rfl, hb⟩
set_option maxHeartbeats 2000000 in
theorem rnParts_main (A1 A2 : Option Addr) (n1 c1 n2 c2 : Nat) (la lb : List Int) (w : World) (h1 : Reads w w.heap.size 1 A1 n1 (zs la)) (h2 : Reads w w.heap.size 1 A2 n2 (zs lb)) (hn1 : n1 ≤ 300) (hn2 : n2 ≤ 300) :
    Calls Try.prog 4 #[.slice A1 n1 c1, .slice A2 n2 c2] w fun e w' => e = .returned (.bool true) ∧ Below w.heap.size w w' := by
  obtain ⟨i1, hi1, hy0, hy1, hy2⟩ := info_parts info_i64
  have e1 : la.length = n1 := by have := h1.1; rw [zs_length] at this; omega
  have e2 : lb.length = n2 := by have := h2.1; rw [zs_length] at this; omega
  have p1 := rc_le la
  have p2 := rc_le lb
  rw [e1] at p1
  rw [e2] at p2
  have E1 := Lib.hid e1; have E2 := Lib.hid e2
  clear e1 e2
  have d1 : decide ((300 : Int) < (n1 : Int)) = false := by simp; omega
  have d2 : decide ((300 : Int) < (n2 : Int)) = false := by simp; omega
  go_enter Try.func4, Try.ntmps4
  go_wp2_with fail
  refine (count_any A1 n1 c1 la w h1 (by omega)).mono ?_
  rintro e w1 ⟨rfl, hb1⟩
  have h11 := h1.next hb1
  have h21 := h2.next hb1
  go_wp2_with fail
  refine (count_any A2 n2 c2 lb w1 h21 (by omega)).mono ?_
  rintro e w2 ⟨rfl, hb2⟩
  have h12' := h11.next hb2
  have h22' := h21.next hb2
  have hb02' := hb1.trans (hb2.mono hb1.size)
  clear h11 h21 hb1 hb2 h1 h2
  have parts := rc_parts lb
  have o0 : ∀ w2 : World, (w2.alloc (.cells #[] 2)).ownsRow w2.heap.size 2 1 (.slice (some ⟨w2.heap.size, 0, none⟩) 0 0) 0 [] := fun w2 => World.ownsRow_made w2 _ _ (Nat.le_refl _) (by unfold maxLen; omega) (by simp)
  have HO := Lib.hid o0; have HPT := Lib.hid parts
  clear o0 parts
  obtain ⟨W2, hW2⟩ : ∃ W, W = w2 := ⟨_, rfl⟩
  have start : ∀ q, Hid (Below w.heap.size w (w2.drewN q) ∧ Reads (w2.drewN q) (w2.drewN q).heap.size 1 A2 n2 (zs lb) ∧ Reads ((w2.drewN q).alloc (.cells #[] 2)) ((w2.drewN q).heap.size + 1) 1 A1 n1 (zs la)) := fun q =>
    Lib.hid ⟨(Drawn.one w2 q).below hb02', h22'.drewN q, ((h12'.drewN q).alloc (Nat.le_refl _) _).more (by show w2.heap.size ≤ w2.heap.size + 1; omega)⟩
  have HST := Lib.hid start
  clear start hW2
  rcases Nat.eq_zero_or_pos n1 with hz1 | hp1
  · subst hz1
    have HQ : Hid ((rc (la ++ lb) : Int) = (rc la : Int) + (rc lb : Int)) := by
      rw [List.eq_nil_of_length_eq_zero E1.out]
      exact Lib.hid (by simp [rc_nil])
    clear h12' h22' hb02'
    go_wp2_with fail
    go_quiet (fail)
    obtain ⟨hb02, h22, r12⟩ := (HST.out nq).out
    have o0 := HO.out (w2.drewN nq)
    clear HST HO
    generalize w2.drewN nq = w2 at *
    go_wp2_with (first
      | (at_builtin
         refine wpList_append_any _ rfl (.tmp 42) (.tmp 43) _ rfl w2.heap.size 2 i1 _ 1 8 Try.underlying22 hi1 hy0 hy1 hy2 rfl (by omega) (.slice (some ⟨w2.heap.size, 0, none⟩) 0 0) 0 [] rfl
           o0 (w2.heap.size + 1) A1 0 c1 (zs la) rfl r12 (zs_one _) (by unfold maxLen; omega) (by omega) (by simp) ?_
         intro v3 w3 hown3 hg3 hat3
         simp only [Nat.zero_add, List.nil_append] at hown3
         have hb3 : Below w2.heap.size w2 w3 := ((Below.refl _ _).alloc (Nat.le_refl _) _).grown hg3 (by simp) (fun k hk => by simp [Value.ownBlock] at hk; omega)
         have r23 := h22.next hb3)
      | (at_builtin
         refine wpList_append_any _ rfl (.tmp 44) (.tmp 45) _ rfl w2.heap.size 2 i1 _ 1 8 Try.underlying22 hi1 hy0 hy1 hy2 rfl (by omega) v3 0 (zs la) rfl
           hown3 w3.heap.size A2 n2 c2 (zs lb) rfl r23 (zs_one _) (by unfold maxLen; omega) (by omega) hb3.size ?_
         intro v4 w4 hown4 hg4 hat4
         obtain ⟨A4, c4, rfl, _, _, r4⟩ := own_slice hown4
         rw [← zs_append] at r4
         have hb4 : Below w2.heap.size w2 w4 := hb3.grown hg4 hb3.size (fun k hk => (hown3.lt k hk).1)))
    try simp only [Nat.zero_add] at r4
    refine (count_any A4 n2 c4 (la ++ lb) w4 r4 (by omega)).mono ?_
    rintro e w5 ⟨rfl, hb5⟩
    have hb05 := hb02.trans ((hb4.trans (hb5.mono hb4.size)).mono hb02.size)
    rw [HQ.out]
    clear hb4 hb5 r4 hown4 hg4 hat4 hown3 hg3 hat3 hb3 r23
    go_wp2_with fail
    refine (rnAwake_any w5).mono ?_
    rintro e w8 ⟨rfl, hb8⟩
    go_wp2_with fail
    go_ret
    exact ⟨rfl, hb05.trans (hb8.mono hb05.size)⟩
  · rcases Nat.eq_zero_or_pos n2 with hz2 | hp2
    · subst hz2
      have HQ : Hid ((rc (la ++ lb) : Int) = (rc la : Int) + (rc lb : Int)) := by
        rw [List.eq_nil_of_length_eq_zero E2.out]
        exact Lib.hid (by simp [rc_nil])
      have d3 : decide ((0 : Int) < (n1 : Int)) = true := by simp; omega
      clear h12' h22' hb02'
      go_wp2_with fail
      go_quiet (fail)
      obtain ⟨hb02, h22, r12⟩ := (HST.out nq).out
      have o0 := HO.out (w2.drewN nq)
      clear HST HO
      generalize w2.drewN nq = w2 at *
      go_wp2_with (first
        | (at_builtin
           refine wpList_append_any _ rfl (.tmp 42) (.tmp 43) _ rfl w2.heap.size 2 i1 _ 1 8 Try.underlying22 hi1 hy0 hy1 hy2 rfl (by omega) (.slice (some ⟨w2.heap.size, 0, none⟩) 0 0) 0 [] rfl
             o0 (w2.heap.size + 1) A1 n1 c1 (zs la) rfl r12 (zs_one _) (by unfold maxLen; omega) (by omega) (by simp) ?_
           intro v3 w3 hown3 hg3 hat3
           simp only [Nat.zero_add, List.nil_append] at hown3
           have hb3 : Below w2.heap.size w2 w3 := ((Below.refl _ _).alloc (Nat.le_refl _) _).grown hg3 (by simp) (fun k hk => by simp [Value.ownBlock] at hk; omega)
           have r23 := h22.next hb3)
        | (at_builtin
           refine wpList_append_any _ rfl (.tmp 44) (.tmp 45) _ rfl w2.heap.size 2 i1 _ 1 8 Try.underlying22 hi1 hy0 hy1 hy2 rfl (by omega) v3 n1 (zs la) rfl
             hown3 w3.heap.size A2 0 c2 (zs lb) rfl r23 (zs_one _) (by unfold maxLen; omega) (by omega) hb3.size ?_
           intro v4 w4 hown4 hg4 hat4
           obtain ⟨A4, c4, rfl, _, _, r4⟩ := own_slice hown4
           rw [← zs_append] at r4
           have hb4 : Below w2.heap.size w2 w4 := hb3.grown hg4 hb3.size (fun k hk => (hown3.lt k hk).1)))
      try simp only [Nat.zero_add] at r4
      refine (count_any A4 n1 c4 (la ++ lb) w4 r4 (by omega)).mono ?_
      rintro e w5 ⟨rfl, hb5⟩
      have hb05 := hb02.trans ((hb4.trans (hb5.mono hb4.size)).mono hb02.size)
      rw [HQ.out]
      clear hb4 hb5 r4 hown4 hg4 hat4 hown3 hg3 hat3 hb3 r23
      go_wp2_with fail
      refine (rnAwake_any w5).mono ?_
      rintro e w8 ⟨rfl, hb8⟩
      go_wp2_with fail
      go_ret
      exact ⟨rfl, hb05.trans (hb8.mono hb05.size)⟩
    · obtain ⟨ad1, u1, rfl, _, hu1, hc1⟩ := h12'.at_ (k := n1 - 1) (by omega)
      obtain ⟨x, hx, rfl⟩ := zs_at hu1
      obtain ⟨ad2, u2, rfl, _, hu2, hc2⟩ := h22'.at_ (k := 0) hp2
      obtain ⟨y, hy, rfl⟩ := zs_at hu2
      have hc2 : w2.cell? ad2 = some (.int .i64 y) := by rwa [show ad2.add 0 = ad2 by simp [Addr.add]] at hc2
      have d3 : decide ((0 : Int) < (n1 : Int)) = true := by simp; omega
      have d4 : decide ((0 : Int) < (n2 : Int)) = true := by simp; omega
      have hq := HPT.out (by intro e; have := E2.out; rw [e] at this; simp at this; omega) la (by intro e; have := E1.out; rw [e] at this; simp at this; omega)
      have hx' : la.getLast? = some x := by rw [List.getLast?_eq_getElem?, E1.out]; exact hx
      have hy' : lb.head? = some y := by rw [List.head?_eq_getElem?]; exact hy
      rw [hx', hy'] at hq
      obtain ⟨k1, hk1⟩ : ∃ k1, k1 = n1 - 1 := ⟨_, rfl⟩
      rw [← hk1] at hc1
      have hkl : k1 < n1 := by omega
      have hw1 : IntKind.i64.wrap ((n1 : Int) - 1) = (k1 : Int) := by rw [IntWalk.i64_in _ (by omega)]; omega
      clear hk1
      clear hu1 hu2 hx hy hx' hy' h12' h22' hb02'
      by_cases hxy : x = y
      · rw [if_pos (by rw [hxy])] at hq
        have HQ : Hid ((rc (la ++ lb) : Int) = (rc la : Int) + (rc lb : Int) - 1) := Lib.hid (by omega)
        subst hxy
        clear hq
        go_wp2_with fail
        go_quiet (fail)
        obtain ⟨hb02, h22, r12⟩ := (HST.out nq).out
        have o0 := HO.out (w2.drewN nq)
        clear HST HO hc1 hc2
        generalize w2.drewN nq = w2 at *
        go_wp2_with (first
          | (at_builtin
             refine wpList_append_any _ rfl (.tmp 42) (.tmp 43) _ rfl w2.heap.size 2 i1 _ 1 8 Try.underlying22 hi1 hy0 hy1 hy2 rfl (by omega) (.slice (some ⟨w2.heap.size, 0, none⟩) 0 0) 0 [] rfl
               o0 (w2.heap.size + 1) (some ad1) n1 c1 (zs la) rfl r12 (zs_one _) (by unfold maxLen; omega) (by omega) (by simp) ?_
             intro v3 w3 hown3 hg3 hat3
             simp only [Nat.zero_add, List.nil_append] at hown3
             have hb3 : Below w2.heap.size w2 w3 := ((Below.refl _ _).alloc (Nat.le_refl _) _).grown hg3 (by simp) (fun k hk => by simp [Value.ownBlock] at hk; omega)
             have r23 := h22.next hb3)
          | (at_builtin
             refine wpList_append_any _ rfl (.tmp 44) (.tmp 45) _ rfl w2.heap.size 2 i1 _ 1 8 Try.underlying22 hi1 hy0 hy1 hy2 rfl (by omega) v3 n1 (zs la) rfl
               hown3 w3.heap.size (some ad2) n2 c2 (zs lb) rfl r23 (zs_one _) (by unfold maxLen; omega) (by omega) hb3.size ?_
             intro v4 w4 hown4 hg4 hat4
             obtain ⟨A4, c4, rfl, _, _, r4⟩ := own_slice hown4
             rw [← zs_append] at r4
             have hb4 : Below w2.heap.size w2 w4 := hb3.grown hg4 hb3.size (fun k hk => (hown3.lt k hk).1)))
        try simp only [Nat.zero_add] at r4
        refine (count_any A4 (n1 + n2) c4 (la ++ lb) w4 r4 (by omega)).mono ?_
        rintro e w5 ⟨rfl, hb5⟩
        have hb05 := hb02.trans ((hb4.trans (hb5.mono hb4.size)).mono hb02.size)
        rw [HQ.out]
        clear hb4 hb5 r4 hown4 hg4 hat4 hown3 hg3 hat3 hb3 r23
        go_wp2_with fail
        refine (rnAwake_any w5).mono ?_
        rintro e w8 ⟨rfl, hb8⟩
        go_wp2_with fail
        go_ret
        exact ⟨rfl, hb05.trans (hb8.mono hb05.size)⟩
      · rw [if_neg (by intro e; injection e with e; exact hxy e)] at hq
        have HQ : Hid ((rc (la ++ lb) : Int) = (rc la : Int) + (rc lb : Int)) := Lib.hid (by omega)
        have g2 : (x == y) = false := by simp [hxy]
        clear hq
        go_wp2_with fail
        go_quiet (fail)
        obtain ⟨hb02, h22, r12⟩ := (HST.out nq).out
        have o0 := HO.out (w2.drewN nq)
        clear HST HO hc1 hc2
        generalize w2.drewN nq = w2 at *
        go_wp2_with (first
          | (at_builtin
             refine wpList_append_any _ rfl (.tmp 42) (.tmp 43) _ rfl w2.heap.size 2 i1 _ 1 8 Try.underlying22 hi1 hy0 hy1 hy2 rfl (by omega) (.slice (some ⟨w2.heap.size, 0, none⟩) 0 0) 0 [] rfl
               o0 (w2.heap.size + 1) (some ad1) n1 c1 (zs la) rfl r12 (zs_one _) (by unfold maxLen; omega) (by omega) (by simp) ?_
             intro v3 w3 hown3 hg3 hat3
             simp only [Nat.zero_add, List.nil_append] at hown3
             have hb3 : Below w2.heap.size w2 w3 := ((Below.refl _ _).alloc (Nat.le_refl _) _).grown hg3 (by simp) (fun k hk => by simp [Value.ownBlock] at hk; omega)
             have r23 := h22.next hb3)
          | (at_builtin
             refine wpList_append_any _ rfl (.tmp 44) (.tmp 45) _ rfl w2.heap.size 2 i1 _ 1 8 Try.underlying22 hi1 hy0 hy1 hy2 rfl (by omega) v3 n1 (zs la) rfl
               hown3 w3.heap.size (some ad2) n2 c2 (zs lb) rfl r23 (zs_one _) (by unfold maxLen; omega) (by omega) hb3.size ?_
             intro v4 w4 hown4 hg4 hat4
             obtain ⟨A4, c4, rfl, _, _, r4⟩ := own_slice hown4
             rw [← zs_append] at r4
             have hb4 : Below w2.heap.size w2 w4 := hb3.grown hg4 hb3.size (fun k hk => (hown3.lt k hk).1)))
        try simp only [Nat.zero_add] at r4
        refine (count_any A4 (n1 + n2) c4 (la ++ lb) w4 r4 (by omega)).mono ?_
        rintro e w5 ⟨rfl, hb5⟩
        have hb05 := hb02.trans ((hb4.trans (hb5.mono hb4.size)).mono hb02.size)
        rw [HQ.out]
        clear hb4 hb5 r4 hown4 hg4 hat4 hown3 hg3 hat3 hb3 r23
        go_wp2_with fail
        refine (rnAwake_any w5).mono ?_
        rintro e w8 ⟨rfl, hb8⟩
        go_wp2_with fail
        go_ret
        exact ⟨rfl, hb05.trans (hb8.mono hb05.size)⟩
theorem rnParts_any (A1 A2 : Option Addr) (n1 c1 n2 c2 : Nat) (la lb : List Int) (w : World) (h1 : Reads w w.heap.size 1 A1 n1 (zs la)) (h2 : Reads w w.heap.size 1 A2 n2 (zs lb)) :
    Calls Try.prog 4 #[.slice A1 n1 c1, .slice A2 n2 c2] w fun e w' => e = .returned (.bool true) ∧ Below w.heap.size w w' := by
  by_cases h : 300 < n1 ∨ 300 < n2
  · exact rnParts_else A1 A2 n1 c1 n2 c2 w h
  · exact rnParts_main A1 A2 n1 c1 n2 c2 la lb w h1 h2 (by omega) (by omega)
end Go.Proofs.Ytlonaeonndjmmaa
