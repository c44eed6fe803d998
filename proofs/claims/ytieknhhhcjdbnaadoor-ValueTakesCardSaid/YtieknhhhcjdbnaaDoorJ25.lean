/- Texts joined: VlRow VlTkC. -/
import Derived.Test.YtieknhhhcjdbnaaDoorJ24
import Derived.Test.YtieknhhhcjdbnaaDoorVlTkV
/- Contracts of package value's mayStand and Row: what is wrong with a row of a schema. Nothing that was there changes. -/
namespace Go.Proofs.YtieknhhhcjdbnaaDoor
open Go.RowKit
set_option linter.unusedVariables false
set_option linter.unusedSimpArgs false
set_option maxRecDepth 100000

/-- May the value stand in the column? -/
def mayB (c : Cl) (v : Vl) : Bool := rgt c.1 v && !(decide (v.1 = 0) && !c.2.1)
theorem mayB_yes {c : Cl} {v : Vl} (h : mayB c v = true) : ¬ (rgt c.1 v = false ∨ v.1 = 0 ∧ c.2.1 = false) := by
  unfold mayB at h
  rw [Bool.and_eq_true] at h
  rintro (e | ⟨e1, e2⟩)
  · rw [e] at h; simp at h
  · rw [e1, e2] at h; simp at h
theorem mayB_no {c : Cl} {v : Vl} (h : mayB c v = false) : rgt c.1 v = false ∨ v.1 = 0 ∧ c.2.1 = false := by
  unfold mayB at h
  rw [Bool.and_eq_false_iff] at h
  rcases h with h | h
  · exact .inl h
  · right; simpa using h
/-- A column handed over. -/
def cW (c : Cl) : Value := .agg #[.int .i64 c.1, .bool c.2.1, .int .i64 c.2.2]
set_option maxHeartbeats 1000000 in
theorem mayStand_any (c : Cl) (v : Vl) (w : World) : Calls Tryd.prog 44 #[vW v, cW c] w fun e w' => e = .returned (.bool (mayB c v)) ∧ Below w.heap.size w w' := by
  obtain ⟨r, hr⟩ : ∃ r, mayB c v = r := ⟨_, rfl⟩
  obtain ⟨v0, v1, z⟩ := v
  obtain ⟨kd, nu, wy⟩ := c
  rw [hr]
  unfold mayB rgt at hr
  simp only at hr
  rw [show vW (v0, v1, z) = .agg #[.int .i64 v0, .int .i64 v1, .string ⟨z.toArray⟩] from rfl, show cW (kd, nu, wy) = .agg #[.int .i64 kd, .bool nu, .int .i64 wy] from rfl]
  have hB : Below w.heap.size w ((w.alloc (.cells #[.int .i64 v0, .int .i64 v1, .string ⟨z.toArray⟩] 31)).alloc (.cells #[.int .i64 kd, .bool nu, .int .i64 wy] 69)) :=
    ((Below.refl _ _).alloc (Nat.le_refl _) _).alloc (by simp) _
  have qz : z = [] ∧ z.isEmpty = true ∨ z ≠ [] ∧ z.isEmpty = false := by cases z <;> simp
  go_enter Tryd.func44, Tryd.ntmps44
  by_cases h0 : v0 = 0
  · subst h0
    cases nu with
    | false =>
      obtain rfl : r = false := by rw [← hr]; simp
      clear hr qz
      go_wp2_with fail
      go_ret
      exact ⟨rfl, hB⟩
    | true =>
      by_cases h1 : v1 = 0
      · subst h1
        rcases qz with ⟨hz, q⟩ | ⟨hz, q⟩
        · obtain rfl : r = true := by rw [← hr]; simp [hz]
          clear hr hz
          go_wp2_with fail
          go_ret
          exact ⟨rfl, hB⟩
        · obtain rfl : r = false := by rw [← hr]; simp [hz]
          clear hr hz
          go_wp2_with fail
          go_ret
          exact ⟨rfl, hB⟩
      · have q : (v1 == 0) = false := by simp [h1]
        obtain rfl : r = false := by rw [← hr]; simp [h1]
        clear hr qz
        go_wp2_with fail
        go_ret
        exact ⟨rfl, hB⟩
  · have q0 : (v0 == 0) = false := by simp [h0]
    by_cases h1 : v0 = 1
    · subst h1
      by_cases hk : kd = 1
      · subst hk
        rcases qz with ⟨hz, q⟩ | ⟨hz, q⟩
        · obtain rfl : r = true := by rw [← hr]; simp [hz]
          clear hr hz
          go_wp2_with fail
          go_ret
          exact ⟨rfl, hB⟩
        · obtain rfl : r = false := by rw [← hr]; simp [hz]
          clear hr hz
          go_wp2_with fail
          go_ret
          exact ⟨rfl, hB⟩
      · have qk : (kd == 1) = false := by simp [hk]
        obtain rfl : r = false := by rw [← hr]; simp; omega
        clear hr qz hk
        go_wp2_with fail
        go_ret
        exact ⟨rfl, hB⟩
    · have q1 : (v0 == 1) = false := by simp [h1]
      by_cases h2 : v0 = 2
      · subst h2
        by_cases hk : kd = 2
        · subst hk
          by_cases h3 : v1 = 0
          · subst h3
            obtain rfl : r = true := by rw [← hr]; simp
            clear hr qz
            go_wp2_with fail
            go_ret
            exact ⟨rfl, hB⟩
          · have q : (v1 == 0) = false := by simp [h3]
            obtain rfl : r = false := by rw [← hr]; simp [h3]
            clear hr qz
            go_wp2_with fail
            go_ret
            exact ⟨rfl, hB⟩
        · have qk : (kd == 2) = false := by simp [hk]
          obtain rfl : r = false := by rw [← hr]; simp; omega
          clear hr qz hk
          go_wp2_with fail
          go_ret
          exact ⟨rfl, hB⟩
      · have q2 : (v0 == 2) = false := by simp [h2]
        obtain rfl : r = false := by rw [← hr]; simp [h0]; omega
        clear hr qz h0 h1 h2
        go_wp2_with fail
        go_ret
        exact ⟨rfl, hB⟩
set_option maxHeartbeats 2000000 in
theorem rowV_any (A A' : Option Addr) (n c n' c' : Nat) (s : List Cl) (row : List Vl) (w : World) (hs : Reads w w.heap.size 3 A n (cls s)) (hr : Reads w w.heap.size 3 A' n' (vs row)) (hn : n ≤ 140737488355328) (hn' : n' ≤ 140737488355328) :
    Calls Tryd.prog 18 #[.slice A n c, .slice A' n' c'] w fun e w' => e = .returned (.int .i64 (rwE s row)) ∧ Below w.heap.size w w' := by
  have e1 : s.length = n := by have := hs.1; rw [cls_length] at this; omega
  have e2 : row.length = n' := by have := hr.1; rw [vs_length] at this; omega
  obtain ⟨R, hR⟩ : ∃ R, rwE s row = R := ⟨_, rfl⟩
  rw [hR]
  unfold rwE at hR
  by_cases hne : n' = n
  · subst hne
    rw [if_neg (by omega)] at hR
    have HQ0 : Hid (colsE (s.drop 0) (row.drop 0) = R) := Lib.hid (by simpa using hR)
    have HE1 := Lib.hid e1; have HE2 := Lib.hid e2
    clear e1 e2 hR
    go_enter Tryd.func18, Tryd.ntmps18
    go_wp2_with fail
    go_loopw [5, 13] (fun _ i wr => ∃ k : Nat, k ≤ n' ∧ i = .int .i64 (k : Int) ∧ Hid (colsE (s.drop k) (row.drop k) = R) ∧ Below w.heap.size w wr) (fun _ i _ => n' - (intOf i).toNat)
    case atStart => exact ⟨0, Nat.zero_le _, rfl, HQ0, Below.refl _ _⟩
    case round =>
      clear HQ0
      obtain ⟨k, hk, rfl, HQ, hb⟩ := hrel
      by_cases hlt : k < n'
      · obtain ⟨⟨kd, nu, wy⟩, hc⟩ : ∃ v, s[k]? = some v := ⟨_, List.getElem?_eq_getElem (by rw [HE1.out]; omega)⟩
        obtain ⟨⟨v0, v1, z⟩, hv⟩ : ∃ v, row[k]? = some v := ⟨_, List.getElem?_eq_getElem (by rw [HE2.out]; omega)⟩
        obtain ⟨b, o, rfl, hb0, y0, y1, y2⟩ := (hs.below hb).col hc
        obtain ⟨b', o', rfl, hb0', x0, x1, x2⟩ := (hr.below hb).val hv
        have k0 := cell_regrown x0; have k1 := cell_regrown x1; have k2 := cell_regrown x2
        have j0 := cell_regrown y0; have j1 := cell_regrown y1; have j2 := cell_regrown y2
        have hstep := HQ.out
        rw [colsE_step hc hv] at hstep
        have hzs : (⟨z.toArray⟩ : ByteArray).size = z.length := by simp [ByteArray.size]
        have hy : Yields wr.heap.size wr 44 #[vW (v0, v1, z), cW (kd, nu, wy)] (.bool (mayB (kd, nu, wy) (v0, v1, z))) := fun V hbV => (mayStand_any (kd, nu, wy) (v0, v1, z) V).mono fun e w' ⟨he, hb'⟩ => ⟨he, hbV.trans (hb'.mono hbV.size)⟩
        rw [show vW (v0, v1, z) = .agg #[.int .i64 v0, .int .i64 v1, .string ⟨z.toArray⟩] from rfl, show cW (kd, nu, wy) = .agg #[.int .i64 kd, .bool nu, .int .i64 wy] from rfl] at hy
        obtain ⟨g, hg⟩ : ∃ g, mayB (kd, nu, wy) (v0, v1, z) = g := ⟨_, rfl⟩
        rw [hg] at hy
        have c11 := fun h => colE_11 (c := (kd, nu, wy)) (v := (v0, v1, z)) (mayB_no h)
        have c12 := fun h => colE_12 (c := (kd, nu, wy)) (v := (v0, v1, z)) (mayB_yes h)
        have c00 := fun h => colE_0 (c := (kd, nu, wy)) (v := (v0, v1, z)) (mayB_yes h)
        rw [hg] at c11 c12 c00
        obtain ⟨X, hX⟩ : ∃ X, colE (kd, nu, wy) (v0, v1, z) = X := ⟨_, rfl⟩
        rw [hX] at hstep c11 c12 c00
        have HY := Lib.hid hy
        clear hc hv hg hy HQ hX
        cases g with
        | false =>
          have HR : Hid (R = 11) := Lib.hid (by rw [← hstep, c11 rfl, if_pos (by decide)])
          clear hstep c11 c12 c00
          go_wp2_with fail
          refine wp_region_quiet_below (by kernel_rfl) (by kernel_rfl) ?_
          repeat (go_big_quiet_step (first | (go_at_call 44; exact HY.out.quiet _ _)))
          refine wpQuiet_nil ?_
          intro _ hw'
          obtain ⟨p, hw''⟩ := hw'
          subst hw''
          have hbp := hb.trans ((below_regrown wr p.d p.os).mono hb.size)
          have cz := k2 p.d p.os
          go_wp2_with fail
          go_ret
          exact ⟨by rw [HR.out]; rfl, hbp⟩
        | true =>
          have h12 : 65536 < z.length → R = 12 := fun h => by rw [← hstep, c12 rfl h, if_pos (by decide)]
          have h0 : ¬ 65536 < z.length → colsE (s.drop (k + 1)) (row.drop (k + 1)) = R := fun h => by rw [← hstep, c00 rfl h, if_neg (by decide)]
          clear hstep c11 c12 c00
          by_cases hzl : 65536 < z.length
          · have HR := Lib.hid (h12 hzl)
            have d1 : decide ((65536 : Int) < (z.length : Int)) = true := by simp; omega
            clear h12 h0 hzl
            go_wp2_with fail
            refine wp_region_quiet_below (by kernel_rfl) (by kernel_rfl) ?_
            repeat (go_big_quiet_step (first | (go_at_call 44; exact HY.out.quiet _ _)))
            refine wpQuiet_nil ?_
            intro _ hw'
            obtain ⟨p, hw''⟩ := hw'
            subst hw''
            have hbp := hb.trans ((below_regrown wr p.d p.os).mono hb.size)
            have cz := k2 p.d p.os
            go_wp2_with fail
            go_ret
            exact ⟨by rw [HR.out]; rfl, hbp⟩
          · have HN := Lib.hid (h0 hzl)
            have d1 : decide ((65536 : Int) < (z.length : Int)) = false := by simp; omega
            clear h12 h0 hzl
            go_wp2_with fail
            refine wp_region_quiet_below (by kernel_rfl) (by kernel_rfl) ?_
            repeat (go_big_quiet_step (first | (go_at_call 44; exact HY.out.quiet _ _)))
            refine wpQuiet_nil ?_
            intro _ hw'
            obtain ⟨p, hw''⟩ := hw'
            subst hw''
            have hbp := hb.trans ((below_regrown wr p.d p.os).mono hb.size)
            have cz := k2 p.d p.os
            go_wp2_with fail
            go_round
            case rel => exact ⟨k + 1, by omega, by go_num, HN, hbp⟩
            case measure => simp [intOf]; omega
      · obtain rfl : k = n' := by omega
        have HR : Hid (R = 0) := Lib.hid (by
          have h1 : s.drop k = [] := List.drop_eq_nil_of_le (by rw [HE1.out]; exact Nat.le_refl _)
          have := HQ.out
          rw [h1] at this
          rw [← this]; rfl)
        clear HQ
        go_wp2_with fail
        go_ret
        exact ⟨by rw [HR.out]; rfl, hb⟩
  · rw [if_pos (by omega)] at hR
    subst hR
    have q : ((n' : Int) != (n : Int)) = true := by simp; omega
    clear e1 e2 hne
    go_enter Tryd.func18, Tryd.ntmps18
    go_wp2_with fail
    go_ret
    exact ⟨rfl, Below.refl _ _⟩
end Go.Proofs.YtieknhhhcjdbnaaDoor

/- Contract of package value's takeColumn: the column that stands there, and the reader behind it. -/
namespace Go.Proofs.YtieknhhhcjdbnaaDoor
open Go.RowKit
set_option linter.unusedVariables false
set_option linter.unusedSimpArgs false
set_option maxRecDepth 100000

set_option maxHeartbeats 2000000 in
theorem takeC_any {w : World} {g : Nat} {b : List Nat} {at_ : Nat} {x : Option (Int × Nat)} (hS : RdS w g b at_ x) :
    Calls Tryd.prog 37 #[.pointer (some ⟨g, 0, none⟩)] w fun e w' => e = .returned (cW (tkC b at_ x).1) ∧ RdTo w g b (tkC b at_ x).2.1 (tkC b at_ x).2.2 w' := by
  have hgw := hS.lt
  have hby := hS.byte
  have T0 := TkS.new hS 69 #[.int .i64 0, .bool false, .int .i64 0]
  have hf1 := nfix_is 1 T0.rd
  have hs1 := fix_small b at_ x hby
  have hf2 := fun (W : World) (h : RdS W g b (fixS b at_ x 1).2.1 (fixS b at_ x 1).2.2) => nfix_is 1 h
  have hs2 := fix_small b (fixS b at_ x 1).2.1 (fixS b at_ x 1).2.2 hby
  have hT : tkC b at_ x = ((((fixS b at_ x 1).1 : Int), decide ((fixS b (fixS b at_ x 1).2.1 (fixS b at_ x 1).2.2 1).1 = 1), ((fixS b (fixS b (fixS b at_ x 1).2.1 (fixS b at_ x 1).2.2 1).2.1 (fixS b (fixS b at_ x 1).2.1 (fixS b at_ x 1).2.2 1).2.2 1).1 : Int) - 1),
    (fixS b (fixS b (fixS b at_ x 1).2.1 (fixS b at_ x 1).2.2 1).2.1 (fixS b (fixS b at_ x 1).2.1 (fixS b at_ x 1).2.2 1).2.2 1).2.1,
    if 1 < (fixS b (fixS b at_ x 1).2.1 (fixS b at_ x 1).2.2 1).1 then failS (fixS b (fixS b (fixS b at_ x 1).2.1 (fixS b at_ x 1).2.2 1).2.1 (fixS b (fixS b at_ x 1).2.1 (fixS b at_ x 1).2.2 1).2.2 1).2.1 (fixS b (fixS b (fixS b at_ x 1).2.1 (fixS b at_ x 1).2.2 1).2.1 (fixS b (fixS b at_ x 1).2.1 (fixS b at_ x 1).2.2 1).2.2 1).2.2 4 else (fixS b (fixS b (fixS b at_ x 1).2.1 (fixS b at_ x 1).2.2 1).2.1 (fixS b (fixS b at_ x 1).2.1 (fixS b at_ x 1).2.2 1).2.2 1).2.2) := rfl
  obtain ⟨⟨kd, a1, x1⟩, hF1⟩ : ∃ y, fixS b at_ x 1 = y := ⟨_, rfl⟩
  rw [hF1] at hf1 hs1 hf2 hs2 hT
  simp only at hf1 hs1 hf2 hs2 hT
  have hf3 := fun (W : World) (h : RdS W g b (fixS b a1 x1 1).2.1 (fixS b a1 x1 1).2.2) => nfix_is 1 h
  have hs3 := fix_small b (fixS b a1 x1 1).2.1 (fixS b a1 x1 1).2.2 hby
  obtain ⟨⟨nu, a2, x2⟩, hF2⟩ : ∃ y, fixS b a1 x1 1 = y := ⟨_, rfl⟩
  rw [hF2] at hf2 hs2 hf3 hs3 hT
  simp only at hf2 hs2 hf3 hs3 hT
  obtain ⟨⟨wy, a3, x3⟩, hF3⟩ : ∃ y, fixS b a2 x2 1 = y := ⟨_, rfl⟩
  rw [hF3] at hf3 hs3 hT
  simp only at hf3 hs3 hT
  have hw1 : IntKind.i64.wrap (kd : Int) = (kd : Int) := IntWalk.i64_in _ (by omega)
  have hw2 : IntKind.i64.wrap (wy : Int) = (wy : Int) := IntWalk.i64_in _ (by omega)
  have hw3 : IntKind.i64.wrap ((wy : Int) - 1) = (wy : Int) - 1 := IntWalk.i64_in _ (by omega)
  have HF1 := Lib.hid hf1; have HF2 := Lib.hid hf2; have HF3 := Lib.hid hf3; have HT0 := Lib.hid T0
  rw [hT]
  clear hf1 hf2 hf3 T0 hS hF1 hF2 hF3 hby hT
  simp only
  by_cases hn : 1 < nu
  · rw [if_pos hn, show decide (nu = 1) = false by simp; omega]
    have d1 : decide ((1 : Int) < (nu : Int)) = true := by simp; omega
    have q1 : ((nu : Int) == 1) = false := by simp; omega
    have HV := Lib.hid fun (W : World) (h : RdS W g b a3 x3) => fail_is 4 h
    go_enter Tryd.func37, Tryd.ntmps37
    go_wp2_with fail
    refine HF1.out.mono ?_
    rintro e w1 ⟨rfl, hto1⟩
    have T1 := HT0.out.take hgw hto1
    clear hto1 HF1 HT0
    go_wp2_with fail
    refine (HF2.out _ T1.rd).mono ?_
    rintro e w2 ⟨rfl, hto2⟩
    have T2 := T1.take hgw hto2
    clear hto2 T1 HF2
    go_wp2_with fail
    refine (HF3.out _ T2.rd).mono ?_
    rintro e w3 ⟨rfl, hto3⟩
    have T3 := T2.take hgw hto3
    clear hto3 T2 HF3
    go_wp2_with fail
    refine (HV.out _ T3.rd).mono ?_
    rintro e w4 ⟨rfl, hto4⟩
    have T5 := T3.take hgw hto4
    clear hto4 T3 HV hn
    obtain ⟨r0, r1, r2⟩ := blk3 T5.res
    have z0 := T5.res.frozen 0; have z1 := T5.res.frozen 1; have z2 := T5.res.frozen 2
    obtain ⟨f1, f2⟩ := tk_fin T5.rd T5.res hgw (by decide) T5.gr (Nat.le_refl _) (.int .i64 (kd : Int)) (.bool false) (.int .i64 ((wy : Int) - 1))
    have F1 := Lib.hid f1; have F2 := Lib.hid f2
    clear f1 f2 T5
    go_wp2_with fail
    exact bodyPost_ret (v := .agg #[.int .i64 (kd : Int), .bool false, .int .i64 ((wy : Int) - 1)]) (results_cell_row rfl _ _ _ _ _ _ _ (by rfl) F1.out Tryd.underlying69 rfl (by kernel_rfl)) rfl ⟨rfl, F2.out⟩
  · rw [if_neg hn]
    have d1 : decide ((1 : Int) < (nu : Int)) = false := by simp; omega
    obtain ⟨q, hq⟩ : ∃ q, decide (nu = 1) = q := ⟨_, rfl⟩
    have q1 : ((nu : Int) == 1) = q := by rw [← hq]; cases h : decide (nu = 1) <;> simp_all <;> omega
    rw [hq]
    clear hq
    go_enter Tryd.func37, Tryd.ntmps37
    go_wp2_with fail
    refine HF1.out.mono ?_
    rintro e w1 ⟨rfl, hto1⟩
    have T1 := HT0.out.take hgw hto1
    clear hto1 HF1 HT0
    go_wp2_with fail
    refine (HF2.out _ T1.rd).mono ?_
    rintro e w2 ⟨rfl, hto2⟩
    have T2 := T1.take hgw hto2
    clear hto2 T1 HF2
    go_wp2_with fail
    refine (HF3.out _ T2.rd).mono ?_
    rintro e w3 ⟨rfl, hto3⟩
    have T5 := T2.take hgw hto3
    clear hto3 T2 HF3
    obtain ⟨r0, r1, r2⟩ := blk3 T5.res
    have z0 := T5.res.frozen 0; have z1 := T5.res.frozen 1; have z2 := T5.res.frozen 2
    obtain ⟨f1, f2⟩ := tk_fin T5.rd T5.res hgw (by decide) T5.gr (Nat.le_refl _) (.int .i64 (kd : Int)) (.bool q) (.int .i64 ((wy : Int) - 1))
    have F1 := Lib.hid f1; have F2 := Lib.hid f2
    clear f1 f2 T5
    go_wp2_with fail
    exact bodyPost_ret (v := .agg #[.int .i64 (kd : Int), .bool q, .int .i64 ((wy : Int) - 1)]) (results_cell_row rfl _ _ _ _ _ _ _ (by rfl) F1.out Tryd.underlying69 rfl (by kernel_rfl)) rfl ⟨rfl, F2.out⟩
end Go.Proofs.YtieknhhhcjdbnaaDoor
