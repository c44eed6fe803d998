/- The walk of the statement ValueOrder, under the contracts of Cmp and Schema. -/
import Derived.Lib.QuietBelow
import Derived.Test.YtieknhhhcjdbnaaVlAwake
import Derived.Test.YtieknhhhcjdbnaaCkRefOf
import Derived.Test.YtieknhhhcjdbnaaYields
namespace Go.Proofs.Ytieknhhhcjdbnaa
open Go.RowKit
set_option linter.unusedVariables false
set_option linter.unusedSimpArgs false
set_option maxRecDepth 100000

set_option maxHeartbeats 8000000 in
theorem orderV_any (hc : CmpC) (hs : SchemaC) (a b c : Vl) (w : World) :
    Calls Try.prog 4 #[vW a, vW b, vW c] w fun e w' => e = .returned (.bool true) ∧ Below w.heap.size w w' := by
  have hturn := cmp_turn a b
  have htr : cmpV a b ≤ 0 → cmpV b c ≤ 0 → cmpV a c ≤ 0 := cmp_trans
  have htr' : 0 ≤ cmpV a b → 0 ≤ cmpV b c → 0 ≤ cmpV a c := cmp_trans'
  have hra := cmp_range a b
  have hrb := cmp_range b c
  have hrc := cmp_range a c
  have HAW := Lib.hid fun W => awakeV_any hc hs W
  have HSM := Lib.hid fun h1 h2 => cmp_same (a := a) (b := b) h1 h2
  have hR : ∀ (v : Vl) (k : Int) (W : World), Calls Try.prog 13 #[vW v, .int .i64 k] W fun e w' => e = .returned (.bool (rgt k v)) ∧ Below W.heap.size W w' := fun v k W => refRight_any v k W
  have HC := Lib.hid hc
  have HRT := Lib.hid hR
  obtain ⟨a0, a1, za⟩ := a
  obtain ⟨b0, b1, zb⟩ := b
  obtain ⟨c0, c1, zc⟩ := c
  obtain ⟨xa, hxa⟩ : ∃ x : Array Value, x = #[.int .i64 a0, .int .i64 a1, .string ⟨za.toArray⟩] := ⟨_, rfl⟩
  obtain ⟨xb, hxb⟩ : ∃ x : Array Value, x = #[.int .i64 b0, .int .i64 b1, .string ⟨zb.toArray⟩] := ⟨_, rfl⟩
  obtain ⟨xc, hxc⟩ : ∃ x : Array Value, x = #[.int .i64 c0, .int .i64 c1, .string ⟨zc.toArray⟩] := ⟨_, rfl⟩
  have hB : Below w.heap.size w (((w.alloc (.cells xa 23)).alloc (.cells xb 23)).alloc (.cells xc 23)) := (((Below.refl _ _).alloc (Nat.le_refl _) _).alloc (by simp) _).alloc (by simp; omega) _
  have k0 : Blk (((w.alloc (.cells xa 23)).alloc (.cells xb 23)).alloc (.cells xc 23)) w.heap.size 23 xa := ((Blk.new w 23 xa).alloc _).alloc _
  have k1 : Blk (((w.alloc (.cells xa 23)).alloc (.cells xb 23)).alloc (.cells xc 23)) (w.heap.size + 1) 23 xb := by
    have h := (Blk.new (w.alloc (.cells xa 23)) 23 xb).alloc (.cells xc 23)
    rwa [World.size_alloc] at h
  have k2 : Blk (((w.alloc (.cells xa 23)).alloc (.cells xb 23)).alloc (.cells xc 23)) (w.heap.size + 1 + 1) 23 xc := by
    have h := Blk.new ((w.alloc (.cells xa 23)).alloc (.cells xb 23)) 23 xc
    rwa [World.size_alloc, World.size_alloc] at h
  have hz : (((w.alloc (.cells xa 23)).alloc (.cells xb 23)).alloc (.cells xc 23)).heap.size = w.heap.size + 3 := by simp
  obtain ⟨x, hx⟩ : ∃ x, cmpV (a0, a1, za) (b0, b1, zb) = x := ⟨_, rfl⟩
  obtain ⟨y, hy⟩ : ∃ y, cmpV (b0, b1, zb) (c0, c1, zc) = y := ⟨_, rfl⟩
  obtain ⟨z, hz2⟩ : ∃ z, cmpV (a0, a1, za) (c0, c1, zc) = z := ⟨_, rfl⟩
  have y1 : ∀ W : World, Calls Try.prog 7 #[.agg #[.int .i64 a0, .int .i64 a1, .string ⟨za.toArray⟩], .agg #[.int .i64 b0, .int .i64 b1, .string ⟨zb.toArray⟩]] W fun e w' => e = .returned (.int .i64 x) ∧ Below W.heap.size W w' := fun W => by rw [← hx]; exact hc _ _ W
  have y2 : ∀ W : World, Calls Try.prog 7 #[.agg #[.int .i64 b0, .int .i64 b1, .string ⟨zb.toArray⟩], .agg #[.int .i64 c0, .int .i64 c1, .string ⟨zc.toArray⟩]] W fun e w' => e = .returned (.int .i64 y) ∧ Below W.heap.size W w' := fun W => by rw [← hy]; exact hc _ _ W
  have y3 : ∀ W : World, Calls Try.prog 7 #[.agg #[.int .i64 a0, .int .i64 a1, .string ⟨za.toArray⟩], .agg #[.int .i64 c0, .int .i64 c1, .string ⟨zc.toArray⟩]] W fun e w' => e = .returned (.int .i64 z) ∧ Below W.heap.size W w' := fun W => by rw [← hz2]; exact hc _ _ W
  have y4 : ∀ W : World, Calls Try.prog 7 #[.agg #[.int .i64 b0, .int .i64 b1, .string ⟨zb.toArray⟩], .agg #[.int .i64 a0, .int .i64 a1, .string ⟨za.toArray⟩]] W fun e w' => e = .returned (.int .i64 (-x)) ∧ Below W.heap.size W w' := fun W => by rw [← hx, ← hturn]; exact hc _ _ W
  rw [hx] at hra htr htr' HSM
  rw [hy] at hrb htr htr'
  rw [hz2] at hrc htr htr'
  rw [hxa, hxb, hxc] at hB k0 k1 k2 hz
  have Y1 := Lib.hid y1; have Y2 := Lib.hid y2; have Y3 := Lib.hid y3; have Y4 := Lib.hid y4
  have HB := Lib.hid hB; have K0 := Lib.hid k0; have K1 := Lib.hid k1; have K2 := Lib.hid k2; have HZ := Lib.hid hz
  have HT := Lib.hid htr; have HT2 := Lib.hid htr'
  clear hB k0 k1 k2 hz hxa hxb hxc hx hy hz2 y1 y2 y3 y4 hturn htr htr' hc hs hR
  rw [show vW (a0, a1, za) = .agg #[.int .i64 a0, .int .i64 a1, .string ⟨za.toArray⟩] from rfl, show vW (b0, b1, zb) = .agg #[.int .i64 b0, .int .i64 b1, .string ⟨zb.toArray⟩] from rfl, show vW (c0, c1, zc) = .agg #[.int .i64 c0, .int .i64 c1, .string ⟨zc.toArray⟩] from rfl]
  go_enter Try.func4, Try.ntmps4
  go_wp2_with fail
  obtain ⟨w0, hw0⟩ : ∃ q, q = (((w.alloc (.cells #[.int .i64 a0, .int .i64 a1, .string ⟨za.toArray⟩] 23)).alloc (.cells #[.int .i64 b0, .int .i64 b1, .string ⟨zb.toArray⟩] 23)).alloc (.cells #[.int .i64 c0, .int .i64 c1, .string ⟨zc.toArray⟩] 23)) := ⟨_, rfl⟩
  rw [← hw0]
  rw [← hw0] at HB K0 K1 K2 HZ
  clear hw0
  have f1 : Hid (Yields w0.heap.size w0 7 #[.agg #[.int .i64 a0, .int .i64 a1, .string ⟨za.toArray⟩], .agg #[.int .i64 b0, .int .i64 b1, .string ⟨zb.toArray⟩]] (.int .i64 x)) := Lib.hid fun V hbV => (Y1.out V).mono fun e w' ⟨he, hb'⟩ => ⟨he, hbV.trans (hb'.mono hbV.size)⟩
  have f2 : Hid (Yields w0.heap.size w0 7 #[.agg #[.int .i64 b0, .int .i64 b1, .string ⟨zb.toArray⟩], .agg #[.int .i64 c0, .int .i64 c1, .string ⟨zc.toArray⟩]] (.int .i64 y)) := Lib.hid fun V hbV => (Y2.out V).mono fun e w' ⟨he, hb'⟩ => ⟨he, hbV.trans (hb'.mono hbV.size)⟩
  have f3 : Hid (Yields w0.heap.size w0 7 #[.agg #[.int .i64 a0, .int .i64 a1, .string ⟨za.toArray⟩], .agg #[.int .i64 c0, .int .i64 c1, .string ⟨zc.toArray⟩]] (.int .i64 z)) := Lib.hid fun V hbV => (Y3.out V).mono fun e w' ⟨he, hb'⟩ => ⟨he, hbV.trans (hb'.mono hbV.size)⟩
  obtain ⟨p0, p1, p2⟩ := blk3 K0.out
  obtain ⟨q0, q1, q2⟩ := blk3 K1.out
  obtain ⟨r0, r1, r2⟩ := blk3 K2.out
  have s0 := cell_regrown p0; have s1 := cell_regrown p1; have s2 := cell_regrown p2
  have t0 := cell_regrown q0; have t1 := cell_regrown q1; have t2 := cell_regrown q2
  have u0 := cell_regrown r0; have u1 := cell_regrown r1; have u2 := cell_regrown r2
  refine wp_region_quiet_below (by kernel_rfl) (by kernel_rfl) ?_
  repeat (go_big_quiet_step (first | (go_at_call 7; first | with_reducible exact f1.out.quiet _ _ | with_reducible exact f2.out.quiet _ _ | with_reducible exact f3.out.quiet _ _)))
  refine wpQuiet_nil ?_
  intro _ hw'
  obtain ⟨p, hw''⟩ := hw'
  subst hw''
  have hbp := below_regrown w0 p.d p.os
  clear s0 s1 s2 t0 t1 t2 u0 u1 u2 p0 p1 p2 q0 q1 q2 r0 r1 r2 f1 f2 f3
  obtain ⟨w1, hw1⟩ : ∃ q, q = Go.Sort.grow (redrawn w0 p.d) p.os := ⟨_, rfl⟩
  rw [← hw1] at hbp ⊢
  clear hw1
  have j0 := K0.out.below hbp (by rw [HZ.out]; omega)
  have j1 := K1.out.below hbp (by rw [HZ.out]; omega)
  have z1 := hbp.size
  rw [HZ.out] at z1
  have hb1 := HB.out.trans (hbp.mono (by rw [HZ.out]; omega))
  obtain ⟨p0, p1, p2⟩ := blk3 j0
  obtain ⟨q0, q1, q2⟩ := blk3 j1
  have G1 := Lib.hid (HRT.out (a0, a1, za) 1)
  have G2 := Lib.hid (HRT.out (a0, a1, za) 2)
  have G3 := Lib.hid (HRT.out (b0, b1, zb) 1)
  have G4 := Lib.hid (HRT.out (b0, b1, zb) 2)
  rw [show vW (a0, a1, za) = .agg #[.int .i64 a0, .int .i64 a1, .string ⟨za.toArray⟩] from rfl] at G1 G2
  rw [show vW (b0, b1, zb) = .agg #[.int .i64 b0, .int .i64 b1, .string ⟨zb.toArray⟩] from rfl] at G3 G4
  obtain ⟨g1, hg1⟩ : ∃ g, rgt 1 (a0, a1, za) = g := ⟨_, rfl⟩
  obtain ⟨g2, hg2⟩ : ∃ g, rgt 2 (a0, a1, za) = g := ⟨_, rfl⟩
  obtain ⟨g3, hg3⟩ : ∃ g, rgt 1 (b0, b1, zb) = g := ⟨_, rfl⟩
  obtain ⟨g4, hg4⟩ : ∃ g, rgt 2 (b0, b1, zb) = g := ⟨_, rfl⟩
  rw [hg1] at G1 HSM; rw [hg2] at G2 HSM; rw [hg3] at G3 HSM; rw [hg4] at G4 HSM
  clear hg1 hg2 hg3 hg4 HRT HC HB K0 K1 K2 HZ hbp
  go_wp2_with fail
  refine (Y4.out _).mono ?_
  rintro e w2 ⟨rfl, hb2⟩
  have z2 := hb2.size
  have i0 := j0.below hb2 (by omega)
  have i1 := j1.below hb2 (by omega)
  have hb02 := hb1.trans (hb2.mono (by omega))
  clear p0 p1 p2 q0 q1 q2 j0 j1 hb1 hb2 Y1 Y2 Y3 Y4
  obtain ⟨p0, p1, p2⟩ := blk3 i0
  obtain ⟨q0, q1, q2⟩ := blk3 i1
  have HW : Hid (∀ W W' : World, Below w2.heap.size w2 W → Below W.heap.size W W' → Below w2.heap.size w2 W') := Lib.hid fun W W' h h' => h.trans (h'.mono h.size)
  have HE : Hid (∀ W : World, Below w2.heap.size w2 W → Below w.heap.size w W) := Lib.hid fun W h => hb02.trans (h.mono (by omega))
  have I0 := Lib.hid (fun (W : World) (h : Below w2.heap.size w2 W) => blk3 (i0.below h (by omega)))
  have I1 := Lib.hid (fun (W : World) (h : Below w2.heap.size w2 W) => blk3 (i1.below h (by omega)))
  clear hb02 i0 i1 z1 z2
  have hb0 : Below w2.heap.size w2 w2 := Below.refl _ _
  rcases hra with rfl | rfl | rfl <;> rcases hrb with rfl | rfl | rfl
  all_goals
    try have hz0 := HT.out (by omega) (by omega)
    try have hz1 := HT2.out (by omega) (by omega)
    go_wp2_with fail
    refine (G1.out _).mono ?_
    rintro e v1 ⟨rfl, hc1⟩
    have hb1 := HW.out _ _ hb0 hc1
    clear p0 p1 p2 q0 q1 q2
    obtain ⟨p0, p1, p2⟩ := I0.out v1 hb1
    obtain ⟨q0, q1, q2⟩ := I1.out v1 hb1
    cases g1
    · -- a no number
      go_wp2_with fail
      refine (G2.out _).mono ?_
      rintro e v2 ⟨rfl, hc2⟩
      have hb2 := HW.out _ _ hb1 hc2
      clear p0 p1 p2 q0 q1 q2
      obtain ⟨p0, p1, p2⟩ := I0.out v2 hb2
      obtain ⟨q0, q1, q2⟩ := I1.out v2 hb2
      cases g2
      · -- a is none
        go_wp2_with fail
        refine (HAW.out _).mono ?_
        rintro e u ⟨rfl, hcu⟩
        go_wp2_with fail
        go_ret
        exact ⟨rfl, HE.out _ (HW.out _ _ hb2 hcu)⟩
      · -- a a text
        go_wp2_with fail
        refine (G3.out _).mono ?_
        rintro e v3 ⟨rfl, hc3⟩
        have hb3 := HW.out _ _ hb2 hc3
        clear p0 p1 p2 q0 q1 q2
        obtain ⟨p0, p1, p2⟩ := I0.out v3 hb3
        obtain ⟨q0, q1, q2⟩ := I1.out v3 hb3
        cases g3
        · -- b no number
          go_wp2_with fail
          refine (G4.out _).mono ?_
          rintro e v4 ⟨rfl, hc4⟩
          have hb4 := HW.out _ _ hb3 hc4
          clear p0 p1 p2 q0 q1 q2
          obtain ⟨p0, p1, p2⟩ := I0.out v4 hb4
          obtain ⟨q0, q1, q2⟩ := I1.out v4 hb4
          cases g4
          · -- b is none
            go_wp2_with fail
            refine (HAW.out _).mono ?_
            rintro e u ⟨rfl, hcu⟩
            go_wp2_with fail
            go_ret
            exact ⟨rfl, HE.out _ (HW.out _ _ hb4 hcu)⟩
          · -- b a text
            have hs := HSM.out (by simp) (by simp)
            first
              | have he := hs.1 (by first | rfl | exact True.intro)
                injection he with e1 e2
                injection e2 with e2 e3
                subst e1 e2 e3
                have qz : ∀ s : Tx, (s == s) = true := fun s => by simp
                first | have qa := qz za | have qa := qz zb
                clear hs
                go_wp2_with fail
                refine (HAW.out _).mono ?_
                rintro e u ⟨rfl, hcu⟩
                go_wp2_with fail
                go_ret
                exact ⟨rfl, HE.out _ (HW.out _ _ hb4 hcu)⟩
              | have hne : a0 = b0 → a1 = b1 → za = zb → False := fun h1 h2 h3 => absurd (hs.2 (by rw [h1, h2, h3])) (by decide)
                clear hs
                go_wp2_with fail
                all_goals first
                  | exact (hne (by assumption) (by assumption) (by assumption)).elim
                  | (refine (HAW.out _).mono ?_
                     rintro e u ⟨rfl, hcu⟩
                     go_wp2_with fail
                     go_ret
                     exact ⟨rfl, HE.out _ (HW.out _ _ hb4 hcu)⟩)
        · -- b a number
          have hs := HSM.out (by simp) (by simp)
          first
            | have he := hs.1 (by first | rfl | exact True.intro)
              injection he with e1 e2
              injection e2 with e2 e3
              subst e1 e2 e3
              have qz : ∀ s : Tx, (s == s) = true := fun s => by simp
              first | have qa := qz za | have qa := qz zb
              clear hs
              go_wp2_with fail
              refine (HAW.out _).mono ?_
              rintro e u ⟨rfl, hcu⟩
              go_wp2_with fail
              go_ret
              exact ⟨rfl, HE.out _ (HW.out _ _ hb3 hcu)⟩
            | have hne : a0 = b0 → a1 = b1 → za = zb → False := fun h1 h2 h3 => absurd (hs.2 (by rw [h1, h2, h3])) (by decide)
              clear hs
              go_wp2_with fail
              all_goals first
                | exact (hne (by assumption) (by assumption) (by assumption)).elim
                | (refine (HAW.out _).mono ?_
                   rintro e u ⟨rfl, hcu⟩
                   go_wp2_with fail
                   go_ret
                   exact ⟨rfl, HE.out _ (HW.out _ _ hb3 hcu)⟩)
    · -- a a number
      go_wp2_with fail
      refine (G3.out _).mono ?_
      rintro e v2 ⟨rfl, hc2⟩
      have hb2 := HW.out _ _ hb1 hc2
      clear p0 p1 p2 q0 q1 q2
      obtain ⟨p0, p1, p2⟩ := I0.out v2 hb2
      obtain ⟨q0, q1, q2⟩ := I1.out v2 hb2
      cases g3
      · -- b no number
        go_wp2_with fail
        refine (G4.out _).mono ?_
        rintro e v3 ⟨rfl, hc3⟩
        have hb3 := HW.out _ _ hb2 hc3
        clear p0 p1 p2 q0 q1 q2
        obtain ⟨p0, p1, p2⟩ := I0.out v3 hb3
        obtain ⟨q0, q1, q2⟩ := I1.out v3 hb3
        cases g4
        · -- b is none
          go_wp2_with fail
          refine (HAW.out _).mono ?_
          rintro e u ⟨rfl, hcu⟩
          go_wp2_with fail
          go_ret
          exact ⟨rfl, HE.out _ (HW.out _ _ hb3 hcu)⟩
        · -- b a text
          have hs := HSM.out (by simp) (by simp)
          first
            | have he := hs.1 (by first | rfl | exact True.intro)
              injection he with e1 e2
              injection e2 with e2 e3
              subst e1 e2 e3
              have qz : ∀ s : Tx, (s == s) = true := fun s => by simp
              first | have qa := qz za | have qa := qz zb
              clear hs
              go_wp2_with fail
              refine (HAW.out _).mono ?_
              rintro e u ⟨rfl, hcu⟩
              go_wp2_with fail
              go_ret
              exact ⟨rfl, HE.out _ (HW.out _ _ hb3 hcu)⟩
            | have hne : a0 = b0 → a1 = b1 → za = zb → False := fun h1 h2 h3 => absurd (hs.2 (by rw [h1, h2, h3])) (by decide)
              clear hs
              go_wp2_with fail
              all_goals first
                | exact (hne (by assumption) (by assumption) (by assumption)).elim
                | (refine (HAW.out _).mono ?_
                   rintro e u ⟨rfl, hcu⟩
                   go_wp2_with fail
                   go_ret
                   exact ⟨rfl, HE.out _ (HW.out _ _ hb3 hcu)⟩)
      · -- b a number
        have hs := HSM.out (by simp) (by simp)
        first
          | have he := hs.1 (by first | rfl | exact True.intro)
            injection he with e1 e2
            injection e2 with e2 e3
            subst e1 e2 e3
            have qz : ∀ s : Tx, (s == s) = true := fun s => by simp
            first | have qa := qz za | have qa := qz zb
            clear hs
            go_wp2_with fail
            refine (HAW.out _).mono ?_
            rintro e u ⟨rfl, hcu⟩
            go_wp2_with fail
            go_ret
            exact ⟨rfl, HE.out _ (HW.out _ _ hb2 hcu)⟩
          | have hne : a0 = b0 → a1 = b1 → za = zb → False := fun h1 h2 h3 => absurd (hs.2 (by rw [h1, h2, h3])) (by decide)
            clear hs
            go_wp2_with fail
            all_goals first
              | exact (hne (by assumption) (by assumption) (by assumption)).elim
              | (refine (HAW.out _).mono ?_
                 rintro e u ⟨rfl, hcu⟩
                 go_wp2_with fail
                 go_ret
                 exact ⟨rfl, HE.out _ (HW.out _ _ hb2 hcu)⟩)
end Go.Proofs.Ytieknhhhcjdbnaa
