import Derived.Test.YticanhidahkhfaaGreatDoorJ26
import Derived.Test.YticanhidahkhfaaGreatDoorJ12
import Derived.Test.YticanhidahkhfaaGreatDoorJ21
import Derived.BigQuiet
import Derived.Deep.QuietTactic
import Derived.Test.YticanhidahkhfaaGreatDoorJ22
import Derived.Test.YticanhidahkhfaaGreatDoorJ24
import Derived.Test.YticanhidahkhfaaGreatDoorJ14
import Derived.Test.YticanhidahkhfaaGreatDoorJ7
import Derived.Test.YticanhidahkhfaaGreatDoorJ23
import Derived.Test.YticanhidahkhfaaGreatDoorJ25
namespace Go.Proofs.YticanhidahkhfaaGreatDoor
open Go.RowKit
set_option linter.unusedVariables false
set_option linter.unusedSimpArgs false
set_option maxRecDepth 100000
theorem pcGetI_no (A : Option Addr) (n c : Nat) (k : Int) (f : Value) (w : World) (h : k < 0 ∨ 65536 < k) :
    Calls Tryz.prog 219 #[.slice A n c, .int .i64 k, f] w fun e w' => e = .returned (.tuple #[.slice none 0 0, .int .i64 1]) ∧ w = w' := by
  by_cases hk : k < 0
  · clear h
    go_enter Tryz.func219, Tryz.ntmps219
    go_wp2_with fail
    go_ret2
    exact ⟨rfl, rfl⟩
  · have d1 : decide (k < 0) = false := by simp; omega
    have h2 : 65536 < k := by omega
    clear h
    go_enter Tryz.func219, Tryz.ntmps219
    go_wp2_with fail
    go_ret2
    exact ⟨rfl, rfl⟩
def GotI (w : World) (G : List Value) (E : Int) (e : Ending) (w' : World) : Prop := ∃ v, e = .returned (.tuple #[v, .int .i64 E]) ∧ w'.ownsRow w.heap.size 2 1 v G.length G ∧ Below w.heap.size w w'
set_option maxHeartbeats 2000000 in
theorem pcGetI_any (A : Option Addr) (n c N : Nat) (b : List Nat) (a0 : Nat) (x0 : Option (Int × Nat)) (Q : List Value → Prop) (E : Int) (G : List Value) (w : World) (hr : Reads w w.heap.size 1 A n (bs b)) (hb : ∀ x ∈ b, x < 256) (hn : n ≤ 140737488355328) (hN : N ≤ 65536) (hmet : Met w)
    (hrl : ∀ (w : World) (g : Nat), Met w → RdS w g b 0 none → Calls Tryz.prog 220 #[.pointer (some ⟨g, 0, none⟩), .int .i64 (N : Int)] w
      fun e w' => ∃ v X, e = .returned v ∧ w'.ownsRow w.heap.size 2 1 v X.length X ∧ Q X ∧ RdTo w g b a0 x0 w')
    (hsp : ∀ X, Q X → X.length ≤ 65536 ∧ (endS b (rpS b a0 x0 N X.length).2.1 (rpS b a0 x0 N X.length).2.2).1 = E ∧
      (E = 0 → (rpS b a0 x0 N X.length).1.length = N ∧ G.length = N ∧ ∀ (k p : Nat), (rpS b a0 x0 N X.length).1[k]? = some p → ∃ u : Int, X[p]? = some (.int .i64 u) ∧ G[k]? = some (.int .i64 u)))
    (hG : E ≠ 0 → G = []) :
    Calls Tryz.prog 219 #[.slice A n c, .int .i64 (N : Int), .func (.func 220) #[] #[]] w (GotI w G E) := by
  have d1 : decide ((N : Int) < 0) = false := by simp
  have d2 : decide ((65536 : Int) < (N : Int)) = false := by simp; omega
  have HB := Lib.hid hb; have HRL := Lib.hid hrl; have HSP := Lib.hid hsp; have HG := Lib.hid hG
  clear hb hrl hsp hG
  go_enter Tryz.func219, Tryz.ntmps219
  go_wp2_with fail
  refine (newReader_any A n c b w hr hn HB.out).mono ?_
  rintro e w1 ⟨g, A1, c1, rfl, hg, hR1, hb1⟩
  have hS1 := rd_new hR1
  have hg1 := hS1.lt
  have hz1 := hb1.size
  clear hR1
  go_wp2_with fail
  refine (HRL.out w1 g (hmet.next hb1) hS1).mono ?_
  rintro e w2 ⟨v2, X, rfl, hown2, hQ, hS2, hG2⟩
  obtain ⟨A2, c2, rfl, _, _, _⟩ := own_slice hown2
  have hb2 : Below w.heap.size w w2 := hb1.grown hG2 hb1.size (fun j hj => by injection hj with hj; omega)
  have hz2 := hG2.size
  obtain ⟨hX, hE, hz⟩ := HSP.out X hQ
  have HRP := Lib.hid (places_any N X.length hS2 hN hX)
  obtain ⟨S, hS⟩ : ∃ S, S = rpS b a0 x0 N X.length := ⟨_, rfl⟩
  rw [← hS] at hE hz HRP
  have hPl : S.1.length ≤ 65536 := by rw [hS]; unfold rpS; exact (unpackS_all _ _ _).2
  obtain ⟨P, hP⟩ : ∃ P, P = S.1 := ⟨_, rfl⟩
  rw [← hP] at hz HRP hPl
  have HZ := Lib.hid hz; have HE := Lib.hid hE
  clear hS1 hb1 hG2 hz hE hS2 hS hP hQ HRL HSP
  go_wp2_with fail
  refine HRP.out.mono ?_
  rintro e w3 ⟨v3, rfl, hown3, hS3, hG3⟩
  obtain ⟨A3, c3, rfl, _, _, _⟩ := own_slice hown3
  have hb3 : Below w.heap.size w w3 := hb2.grown hG3 hb2.size (fun j hj => by injection hj with hj; omega)
  have hown23 := own_before hown2 hG3 (fun r hr => by injection hr with hr; omega)
  have hm3 := hmet.next hb3
  have hcl := end_is hm3 hS3
  obtain ⟨o, ho⟩ : ∃ o : Int, o = ((endS b S.2.1 S.2.2).2 : Int) := ⟨_, rfl⟩
  rw [HE.out, ← ho] at hcl
  have HCL := Lib.hid hcl
  clear ho hcl hS3 hb2 hG3 hown2 hm3 HE HRP
  go_wp2_with fail
  refine HCL.out.mono ?_
  rintro e w4 ⟨he, hb4⟩
  have he' : e = .returned (.tuple #[.int .i64 E, .int .i64 o]) := he
  subst he'
  clear he HCL
  have hb04 := hb3.trans (hb4.mono hb3.size)
  have hown24 := own_below hown23 hb4
  have hown34 := own_below hown3 hb4
  clear hown23 hown3 hb3 hb4
  by_cases hrz : E = 0
  · obtain ⟨hlen, hGl, hfit⟩ := HZ.out hrz
    subst hrz
    have hmk := fun W => run_make_i64 N N (Nat.le_refl _) (by omega) W
    rw [← fillW_zero G (.int .i64 0) N hGl] at hmk
    have HX := Lib.hid hGl; have HF := Lib.hid hfit
    have r2 := Reads.of_own hown24
    have r3 := Reads.of_own hown34
    have hF0 := Blk.new w4 2 (fillW G (.int .i64 0) 0)
    have hb40 : Below w4.heap.size w4 (w4.alloc (.cells (fillW G (.int .i64 0) 0) 2)) := (Below.refl _ _).alloc (Nat.le_refl _) _
    clear hGl hfit hown24 hown34 HZ HG
    rw [hlen] at r3
    have HLEN := Lib.hid hlen
    rw [hlen]
    clear hlen
    go_wp2_with fail
    clear hmk
    go_loopw [45] (fun s45 wr => ∃ k : Nat, k ≤ N ∧ s45 = .int .i64 (k : Int) ∧ Blk wr w4.heap.size 2 (fillW G (.int .i64 0) k) ∧ Below w4.heap.size w4 wr) (fun i _ => N - (intOf i).toNat)
    case atStart => exact ⟨0, Nat.zero_le _, rfl, hF0, hb40⟩
    case round =>
      clear hF0 hb40
      obtain ⟨k, hk, rfl, hF, hbr⟩ := hrel
      by_cases hlt : k < N
      · obtain ⟨ad, u, rfl, _, hu, hc0⟩ := (r3.below hbr).at_ hlt
        obtain ⟨a, ha, rfl⟩ := us_at hu
        obtain ⟨u2, hu2, hGk⟩ := HF.out k a ha
        have haX : a < X.length := (List.getElem?_eq_some_iff.1 hu2).1
        obtain ⟨ad2, u2', rfl, _, hu2', hc2⟩ := (r2.below hbr).at_ haX
        obtain rfl : Value.int .i64 u2 = u2' := by rw [hu2] at hu2'; exact Option.some.inj hu2'
        have HAT := Lib.hid hGk
        have hck := hF.cell k
        rw [fillW_old _ _ k (by rw [HX.out]; omega)] at hck
        have hfk := hF.frozen k
        clear hu ha hu2 hu2' hGk
        go_wp2_with fail
        go_round
        case rel =>
          refine ⟨k + 1, by omega, by go_num, ?_, hbr.setCell (Nat.le_refl _) _⟩
          have h1 := hF.set_ k (.int .i64 u2)
          rw [fillW_next _ _ k _ HAT.out] at h1
          exact h1
        case measure => simp [intOf]; omega
      · obtain rfl : k = N := by omega
        rw [fillW_all _ _ k HX.out] at hF
        have hown := own_whole (B := w4.heap.size) hF (Nat.le_refl _) HX.out (by unfold maxLen; omega)
        go_wp2_with fail
        go_ret2
        exact ⟨_, rfl, by rw [HX.out]; exact own_base hown hb04.size, hb04.trans (hbr.mono hb04.size)⟩
  · have q1 : (E == 0) = false := by simp [hrz]
    have q2 : (E != 0) = true := by simp [hrz]
    have hg0 := HG.out hrz
    subst hg0
    clear hrz hown24 hown34 HZ HG
    go_wp2_with fail
    go_ret2
    exact ⟨.slice none 0 0, rfl, own_nil _ _ _ _, hb04⟩
end Go.Proofs.YticanhidahkhfaaGreatDoor
namespace Go.Proofs.YticanhidahkhfaaGreatDoor
open Go.RowKit
set_option linter.unusedVariables false
set_option linter.unusedSimpArgs false
set_option maxRecDepth 100000
theorem run_make_i64u (n : Nat) (hc : n ≤ 17592186044416) (w : World) :
    (Instr.makeSlice 205 (.int .u64 (n : Int)) (.int .u64 (n : Int))).run Tryz.prog w = .ok (.slice (some ⟨w.heap.size, 0, none⟩) n n) (w.alloc (.cells (madeCells #[.int .i64 0] n) 2)) := by
  obtain ⟨i, hi, hz0, hz1, hz2⟩ := info_parts info_i64
  have hr := run_make (P := Tryz.prog) w 205 2 i _ Tryz.underlying205 hi hz0 .u64 .u64 n n (by omega) (by omega) (by rw [hz2]; omega) (by omega)
  rw [hz1] at hr
  simpa [Value.cells] using hr
theorem var_first {w : World} {g : Nat} {b : List Nat} (h : RdS w g b 0 none) :
    Calls Tryz.prog 62 #[.pointer (some ⟨g, 0, none⟩)] w fun e w' => e = .returned (.int .u64 (vv b 0 : Int)) ∧ RdTo w g b (vst b 1).1 (vst b 1).2 w' := var_is h
theorem fillW_done (xs : List Value) (z : Value) {k j : Nat} (h : j < k) (hk : k ≤ xs.length) : (fillW xs z k)[j]? = xs[j]? := by
  unfold fillW
  rw [List.getElem?_toArray, List.getElem?_append_left (by rw [List.length_take]; omega), List.getElem?_take, if_pos h]
theorem ldS_first {b : List Nat} {v a : Nat} {x : Option (Int × Nat)} (h : varS b (ldS b 0).1.1 (ldS b 0).1.2 = (v, a, x)) : ldS b 1 = ((a, x), zagI (v : Int)) := by
  conv => lhs; unfold ldS
  simp only
  rw [if_pos trivial, h]
theorem ldS_more {b : List Nat} {k v a : Nat} {x : Option (Int × Nat)} (hk : k ≠ 0) (h : varS b (ldS b k).1.1 (ldS b k).1.2 = (v, a, x)) :
    ldS b (k + 1) = (if wrap64 ((ldS b k).2 + v + 1) ≤ (ldS b k).2 then (a, failS a x 4) else (a, x), wrap64 ((ldS b k).2 + v + 1)) := by
  conv => lhs; unfold ldS
  simp only
  rw [if_neg hk, h]
theorem step_eq (p : Int) (v : Nat) : wrap64 (wrap64 (p + wrap64 (v : Int)) + 1) = wrap64 (p + v + 1) := by
  rw [wr64, wr64, wr64, wr64]; omega
def LdAt (w wr : World) (g h : Nat) (b : List Nat) (c k : Nat) : Prop :=
  Blk wr h 2 (fillW (zs (ldL b c)) (.int .i64 0) k) ∧ RdS wr g b (ldS b k).1.1 (ldS b k).1.2 ∧ w.grownBy wr (some g)
set_option maxHeartbeats 1000000 in
theorem readL_any {w : World} {g : Nat} {b : List Nat} (n : Nat) (h : RdS w g b 0 none) (hn : n ≤ 65536) :
    Calls Tryz.prog 220 #[.pointer (some ⟨g, 0, none⟩), .int .i64 (n : Int)] w
      fun e w' => ∃ v, e = .returned v ∧ w'.ownsRow w.heap.size 2 1 v (rdl b n).2.length (zs (rdl b n).2) ∧ RdTo w g b (rdl b n).1.1 (rdl b n).1.2 w' := by
  have hby := h.byte
  have hgw := h.lt
  have hv0 := vv_lt hby 0
  have hnw : IntKind.u64.wrap (n : Int) = (n : Int) := IntWalk.u64_in _ (by omega)
  have hvi := var_first h
  obtain ⟨c, hc⟩ : ∃ c, c = vv b 0 := ⟨_, rfl⟩
  unfold rdl
  rw [← hc] at hvi hv0 ⊢
  by_cases hcn : n < c
  · have HV := Lib.hid hvi
    clear hvi hc
    rw [if_pos hcn]
    go_enter Tryz.func220, Tryz.ntmps220
    go_wp2_with fail
    refine HV.out.mono ?_
    rintro e w1 ⟨rfl, hS1, hG1⟩
    go_wp2_with fail
    refine (fail_is 5 hS1).mono ?_
    rintro e w2 ⟨rfl, hS2, hG2⟩
    go_wp2_with fail
    go_ret
    exact ⟨_, rfl, own_nil _ _ _ _, hS2, only_trans hG1 hG2⟩
  · have HV := Lib.hid hvi
    rw [if_neg hcn]
    have hXz : (zs (ldL b c)).length = c := by rw [zs_length, ldL_length]
    have hmk := fun W => run_make_i64u c (by omega) W
    rw [← fillW_zero (zs (ldL b c)) (.int .i64 0) c hXz] at hmk
    have HX := Lib.hid hXz
    have HBY := Lib.hid hby
    clear hvi hc hXz hby
    go_enter Tryz.func220, Tryz.ntmps220
    go_wp2_with fail
    refine HV.out.mono ?_
    rintro e w1 ⟨rfl, hS1, hG1⟩
    have hz1 := hG1.size
    have hF0 := Blk.new w1 2 (fillW (zs (ldL b c)) (.int .i64 0) 0)
    obtain ⟨w2, hw2⟩ : ∃ w2, w2 = w1.alloc (.cells (fillW (zs (ldL b c)) (.int .i64 0) 0) 2) := ⟨_, rfl⟩
    obtain ⟨G, hG⟩ : ∃ G, G = w1.heap.size := ⟨_, rfl⟩
    have hat : LdAt w w2 g G b c 0 := by
      rw [hw2, hG]
      exact ⟨hF0, hS1.alloc _, only_alloc hG1 _⟩
    have hwG : w.heap.size ≤ G := by rw [hG]; exact hz1
    have hGg : g < G := by omega
    go_wp2_with fail
    rw [← hw2, ← hG]
    clear hmk hS1 hG1 hF0 hw2 hz1 hG
    go_loopw [21] (fun s21 wr => ∃ k : Nat, k ≤ c ∧ s21 = .int .i64 (k : Int) ∧ LdAt w wr g G b c k) (fun i _ => c - (intOf i).toNat)
    case atStart => exact ⟨0, Nat.zero_le _, rfl, hat⟩
    case round =>
      clear hat
      obtain ⟨k, hk, rfl, hF, hS, hGr⟩ := hrel
      by_cases hlt : k < c
      · have hvar := var_is hS
        have hvl := varS_lt HBY.out (ldS b k).1.1 (ldS b k).1.2
        rcases hvS : varS b (ldS b k).1.1 (ldS b k).1.2 with ⟨v, a2, x2⟩
        rw [hvS] at hvar hvl
        simp only at hvar hvl
        have HVR := Lib.hid hvar
        have HAT := Lib.hid (zs_get (ldL_at b c k hlt))
        have hxl : k < (zs (ldL b c)).length := by rw [HX.out]; exact hlt
        have HXL := Lib.hid hxl
        have hGne : (some G : Option Nat) ≠ some g := fun e => by injection e with e; omega
        have HNE := Lib.hid hGne
        clear hvar hS hxl hGne
        by_cases hk0 : k = 0
        · subst hk0
          have HS1 := Lib.hid (ldS_first hvS)
          have q0 : (((0 : Nat) : Int) == 0) = true := rfl
          clear hvS
          go_wp2_with fail
          refine HVR.out.mono ?_
          rintro e w3 ⟨rfl, hS3, hG3⟩
          have hF3 := hF.grown hG3 HNE.out
          have hG03 := only_trans hGr hG3
          have hc0 := hF3.cell 0
          rw [fillW_old _ _ 0 HXL.out] at hc0
          have hf0 := hF3.frozen 0
          clear hF hG3 hGr
          go_wp2_with fail
          refine (zag_any v w3 hvl).mono ?_
          rintro e w' ⟨rfl, rfl⟩
          go_wp2_with fail
          go_round
          case rel =>
            refine ⟨1, by omega, by go_num, ?_, ?_, only_setCell hG03 (.inr hwG) _⟩
            · have h1 := hF3.set_ 0 (.int .i64 (zagI (v : Int)))
              rw [fillW_next _ _ 0 _ (by rw [HAT.out, HS1.out])] at h1
              exact h1
            · rw [HS1.out]
              exact hS3.store hF3 hGg (by decide) 0 _
          case measure => simp [intOf]; omega
        · obtain ⟨j, hj⟩ : ∃ j, k = j + 1 := ⟨k - 1, by omega⟩
          have HS1 := Lib.hid (ldS_more hk0 hvS)
          have HLJ := Lib.hid (zs_get (ldL_at b c j (by omega)))
          rw [← hj] at HLJ
          have q0 : ((k : Int) == 0) = false := by simp; omega
          have hk1 : (k : Int) - 1 = (j : Int) := by omega
          have hk2 : IntKind.i64.wrap (j : Int) = (j : Int) := IntWalk.i64_in _ (by omega)
          have hjc : j < c := by omega
          have hjk : ¬ j = k := by omega
          have hkj : ¬ k = j := by omega
          have hjk2 : j < k := by omega
          obtain ⟨p, hp⟩ : ∃ p, p = (ldS b k).2 := ⟨_, rfl⟩
          rw [← hp] at HS1 HLJ
          have HST := Lib.hid (step_eq p v)
          clear hvS hj hp hk0
          go_wp2_with fail
          refine HVR.out.mono ?_
          rintro e w3 ⟨rfl, hS3, hG3⟩
          have hF3 := hF.grown hG3 HNE.out
          have hG03 := only_trans hGr hG3
          have hck := hF3.cell k
          rw [fillW_old _ _ k HXL.out] at hck
          have hfk := hF3.frozen k
          have hcj := hF3.cell j
          rw [fillW_done _ _ hjk2 (by rw [HX.out]; omega), HLJ.out] at hcj
          clear hF hG3 hGr hjk2
          go_wp2_with fail
          rw [HST.out]
          obtain ⟨z, hz⟩ : ∃ z, z = wrap64 (p + v + 1) := ⟨_, rfl⟩
          rw [← hz] at HS1 ⊢
          have hF4 := hF3.set_ k (.int .i64 z)
          rw [fillW_next _ _ k _ (by rw [HAT.out, HS1.out])] at hF4
          have hS4 := hS3.store hF3 hGg (by decide) k (.int .i64 z)
          have hG04 := only_setCell hG03 (p := ⟨G, k, none⟩) (.inr hwG) (.int .i64 z)
          obtain ⟨w4, hw4⟩ : ∃ w4, w4 = w3.setCell ⟨G, k, none⟩ (.int .i64 z) := ⟨_, rfl⟩
          rw [← hw4] at hF4 hS4 hG04 ⊢
          have hck4 := hF4.cell k
          rw [fillW_done _ _ (Nat.lt_succ_self k) (by rw [HX.out]; omega), HAT.out, HS1.out] at hck4
          have hcj4 := hF4.cell j
          rw [fillW_done _ _ (by omega) (by rw [HX.out]; omega), HLJ.out] at hcj4
          simp only at hck4
          have HS2 := HS1
          clear hF3 hS3 hG03 hw4 hck hfk hcj hz HST
          by_cases hzp : z ≤ p
          · rw [if_pos hzp] at HS2
            go_quiet (fail)
            go_wp2_with fail
            refine (fail_is 4 (hS4.next ((Drawn.one _ _).below (Below.refl _ _)))).mono ?_
            rintro e w5 ⟨rfl, hS5, hG5⟩
            have hF5 := (hF4.drewN _).grown hG5 HNE.out
            have hG05 := only_trans (only_drewN hG04 _) hG5
            go_wp2_with fail
            go_round
            case rel => exact ⟨k + 1, by omega, by go_num, hF5, by rw [HS2.out]; exact hS5, hG05⟩
            case measure => simp [intOf]; omega
          · rw [if_neg hzp] at HS2
            go_quiet (fail)
            go_wp2_with fail
            go_round
            case rel => exact ⟨k + 1, by omega, by go_num, hF4.drewN _, by rw [HS2.out]; exact hS4.next ((Drawn.one _ _).below (Below.refl _ _)), only_drewN hG04 _⟩
            case measure => simp [intOf]; omega
      · obtain rfl : k = c := by omega
        rw [fillW_all _ _ k HX.out] at hF
        have hown := own_whole (B := w.heap.size) hF hwG HX.out (by unfold maxLen; omega)
        go_wp2_with fail
        go_ret
        rw [ldL_length]
        exact ⟨_, rfl, hown, hS, hGr⟩
end Go.Proofs.YticanhidahkhfaaGreatDoor
namespace Go.Proofs.YticanhidahkhfaaGreatDoor
open Go.RowKit
set_option linter.unusedVariables false
set_option linter.unusedSimpArgs false
set_option maxRecDepth 100000
theorem dcGet_no (A : Option Addr) (n c : Nat) (b : List Nat) (k : Int) (w : World) (h : k < 0 ∨ 65536 < k) :
    Calls Tryz.prog 160 #[.slice A n c, .int .i64 k] w (NewLE w (dcG b k) (dcE b k)) := by
  obtain ⟨h1, h2⟩ := dcE_bad (b := b) h
  rw [h1, h2]
  have HC := Lib.hid (pcGetI_no A n c k (.func (.func 220) #[] #[]) w h)
  clear h1 h2 h
  go_enter Tryz.func160, Tryz.ntmps160
  go_wp2_with fail
  refine HC.out.mono ?_
  rintro e w1 ⟨rfl, rfl⟩
  go_wp2_with fail
  go_ret2
  exact ⟨.slice none 0 0, rfl, own_nil _ _ _ _, Below.refl _ _⟩
theorem dcS_fit {b : List Nat} (hb : ∀ x ∈ b, x < 256) {N : Nat} (hN : N ≤ 65536) (hE : dcE b (N : Int) = 0) : (dcS b N).1.length = N ∧ ∀ a ∈ (dcS b N).1, a < (rdl b N).2.length := by
  obtain ⟨z1, z2, z3⟩ := dcE_zero hN hE
  obtain ⟨h1, h2, h3, _⟩ := dcG_rest hb hN z2 z3 hE
  obtain ⟨e1, e2, e3⟩ := ld_place hb z3
  have hr : rdl b N = ((ldS b (vv b 0)).1, ldL b (vv b 0)) := by unfold rdl; rw [if_neg z2]
  have hP : (dcS b N).1 = unpackS (b.drop ((vst b (vv b 0 + 1)).1 + 1)) (N : Int) (blen (vv b 0 - 1) : Int) := by
    unfold dcS
    rw [hr]
    simp only
    rw [e1, ldL_length]
    simp only
    rw [rp_rest b _ N _ h1]
  obtain ⟨_, _, p3, _⟩ := pack_again (b.drop ((vst b (vv b 0 + 1)).1 + 1)) (N : Int) (blen (vv b 0 - 1) : Int) (fun x hx => hb x (List.mem_of_mem_drop hx)) h2
  obtain ⟨w1, _⟩ := whE_zero h3
  rw [hP, hr]
  simp only
  rw [ldL_length]
  exact ⟨by rw [p3]; simp, w1⟩
theorem rdl_length {b : List Nat} {N : Nat} (hN : N ≤ 65536) : (rdl b N).2.length ≤ 65536 := by
  unfold rdl
  split
  · simp
  · rename_i h; rw [ldL_length]; omega
theorem dcGet_ok (A : Option Addr) (n c N : Nat) (b : List Nat) (w : World) (hr : Reads w w.heap.size 1 A n (bs b)) (hb : ∀ x ∈ b, x < 256) (hn : n ≤ 140737488355328) (hN : N ≤ 65536) (hmet : Met w) :
    Calls Tryz.prog 160 #[.slice A n c, .int .i64 (N : Int)] w (NewLE w (dcG b (N : Int)) (dcE b (N : Int))) := by
  have hE : dcE b (N : Int) = (endS b (dcS b N).2.1 (dcS b N).2.2).1 := by
    unfold dcE
    rw [if_neg (by omega), Int.toNat_natCast]
  have hG : dcG b (N : Int) = if dcE b (N : Int) = 0 then (dcS b N).1.map (fun a => ((rdl b N).2[a]?).getD 0) else [] := by
    unfold dcG
    rw [Int.toNat_natCast]
  have HC := Lib.hid (pcGetI_any A n c N b (rdl b N).1.1 (rdl b N).1.2 (fun X => X = zs (rdl b N).2) (dcE b (N : Int)) (zs (dcG b (N : Int))) w hr hb hn hN hmet
    (fun w g _ h => (readL_any N h hN).mono fun e w' ⟨v, h1, h2, h3⟩ => ⟨v, zs (rdl b N).2, h1, by rw [zs_length]; exact h2, rfl, h3⟩)
    (fun X hX => by
      subst hX
      rw [zs_length]
      refine ⟨rdl_length hN, hE.symm, fun h0 => ?_⟩
      obtain ⟨f1, f2⟩ := dcS_fit hb hN h0
      refine ⟨f1, ?_, fun k p hp => ?_⟩
      · rw [zs_length, hG, if_pos h0, List.length_map, f1]
      · have hpX : p < (rdl b N).2.length := f2 p (List.mem_of_getElem? hp)
        have hz : (rdl b N).2[p]? = some (rdl b N).2[p] := List.getElem?_eq_getElem hpX
        refine ⟨(rdl b N).2[p], zs_get hz, zs_get ?_⟩
        rw [hG, if_pos h0, List.getElem?_map, show (dcS b N).1[k]? = some p from hp]
        simp [hz])
    (fun h0 => by rw [hG, if_neg h0]; rfl))
  clear hE hG
  go_enter Tryz.func160, Tryz.ntmps160
  go_wp2_with fail
  refine HC.out.mono ?_
  rintro e w1 ⟨v, rfl, hown, hb1⟩
  go_wp2_with fail
  go_ret2
  exact ⟨v, rfl, by rw [zs_length] at hown; exact hown, hb1⟩
theorem dcGet_any (A : Option Addr) (n c : Nat) (k : Int) (b : List Nat) (w : World) (hr : Reads w w.heap.size 1 A n (bs b)) (hb : ∀ x ∈ b, x < 256) (hn : n ≤ 140737488355328) (hmet : Met w) :
    Calls Tryz.prog 160 #[.slice A n c, .int .i64 k] w (NewLE w (dcG b k) (dcE b k)) := by
  by_cases h : k < 0 ∨ 65536 < k
  · exact dcGet_no A n c b k w h
  · obtain ⟨N, rfl⟩ : ∃ N : Nat, k = (N : Int) := ⟨k.toNat, by omega⟩
    exact dcGet_ok A n c N b w hr hb hn (by omega) hmet
end Go.Proofs.YticanhidahkhfaaGreatDoor
namespace Go.Proofs.YticanhidahkhfaaGreatDoor
open Go.RowKit
set_option linter.unusedVariables false
set_option linter.unusedSimpArgs false
def roomI (m : Int) : Nat := (9223372036854775807 - m).toNat
def fitB (m : Int) (L : List Nat) : Bool := L.contains 0 && L.all fun d => decide (d ≤ roomI m)
theorem fitB_iff {m : Int} {L : List Nat} : fitB m L = true ↔ 0 ∈ L ∧ ∀ d ∈ L, d ≤ roomI m := by
  unfold fitB
  simp [List.all_eq_true]
end Go.Proofs.YticanhidahkhfaaGreatDoor
namespace Go.Proofs.YticanhidahkhfaaGreatDoor
open Go.RowKit
set_option linter.unusedVariables false
set_option linter.unusedSimpArgs false
set_option maxRecDepth 100000
def raS (b : List Nat) (at_ : Nat) (x : Option (Int × Nat)) (n m : Int) : List Nat × Nat × Option (Int × Nat) :=
  ((rbS b at_ x n).1, (rbS b at_ x n).2.1, if fitB m (rbS b at_ x n).1 = true then (rbS b at_ x n).2.2 else failS (rbS b at_ x n).2.1 (rbS b at_ x n).2.2 4)
theorem ra_lt (b : List Nat) (at_ : Nat) (x : Option (Int × Nat)) (n m : Int) : (∀ a ∈ (raS b at_ x n m).1, a < 18446744073709551616) ∧ (raS b at_ x n m).1.length ≤ 65536 := rb_lt b at_ x n
theorem ra_some (b : List Nat) (at_ : Nat) (y : Int × Nat) (n m : Int) : (raS b at_ (some y) n m).2 = (at_, some y) := by
  unfold raS
  rw [rb_some]
  unfold failS
  simp
theorem rb_none (b : List Nat) (at_ : Nat) (n : Int) (hat : at_ ≤ b.length) (h : (rbS b at_ none n).2.2 = none) : (rbS b at_ none n).2.1 = b.length := by
  cases hv : b[at_]? with
  | none =>
    have hl : at_ = b.length := by have := List.getElem?_eq_none_iff.1 hv; omega
    rw [rb_short b at_ n hl] at h ⊢
    exact hl
  | some v =>
    by_cases h64 : 64 < v
    · rw [rb_wide b at_ v n hv h64] at h; cases h
    · rw [rb_rest b at_ v n hv h64]
theorem failS_ok {at_ : Nat} {x : Option (Int × Nat)} {k : Int} {y : Int × Nat} (hx : ∀ z, x = some z → z.1 ≠ 0) (h : failS at_ x k = some y) : y.1 ≠ 0 := by
  cases x with
  | some z => injection h with h; subst h; exact hx z rfl
  | none =>
    unfold failS at h
    simp only at h
    split at h
    · cases h
    · rename_i hk
      injection h with h
      subst h
      exact hk
theorem rb_ok (b : List Nat) (at_ : Nat) (n : Int) (hat : at_ ≤ b.length) (y : Int × Nat) (h : (rbS b at_ none n).2.2 = some y) : y.1 ≠ 0 := by
  cases hv : b[at_]? with
  | none =>
    have hl : at_ = b.length := by have := List.getElem?_eq_none_iff.1 hv; omega
    rw [rb_short b at_ n hl] at h
    injection h with h
    subst h
    simp
  | some v =>
    by_cases h64 : 64 < v
    · rw [rb_wide b at_ v n hv h64] at h
      injection h with h
      subst h
      simp
    · rw [rb_rest b at_ v n hv h64] at h
      simp only at h
      split at h
      · exact failS_ok (by simp) h
      · exact failS_ok (fun z hz => failS_ok (by simp) hz) h
def raE (b : List Nat) (at_ : Nat) (n m : Int) : Int := if rbE b at_ n = 0 then (if fitB m (rbS b at_ none n).1 = true then 0 else 4) else rbE b at_ n
theorem ra_end (b : List Nat) (at_ : Nat) (n m : Int) (hat : at_ ≤ b.length) : (endS b (raS b at_ none n m).2.1 (raS b at_ none n m).2.2).1 = raE b at_ n m := by
  have h := rb_end b at_ n hat
  have hn := rb_none b at_ n hat
  have hk := rb_ok b at_ n hat
  unfold raE
  rw [← h]
  unfold raS
  generalize rbS b at_ none n = s at h hn hk ⊢
  obtain ⟨L, a, x⟩ := s
  simp only at h hn hk ⊢
  cases x with
  | none =>
    have ha := hn rfl
    subst ha
    have h0 : (endS b b.length none).1 = 0 := by rw [endS_none, if_neg (by omega)]
    rw [if_pos h0]
    by_cases hf : fitB m L = true
    · rw [if_pos hf, if_pos hf, h0]
    · rw [if_neg hf, if_neg hf]
      simp only [failS]
      rw [if_neg (by omega), endS_some _ _ _ (by simp)]
  | some y =>
    have hy := hk y rfl
    have hfs : failS a (some y) 4 = some y := rfl
    have h0 : ¬ (endS b a (some y)).1 = 0 := by rw [endS_some _ _ _ hy]; exact hy
    rw [hfs, if_neg h0, ite_self]
def fM (b : List Nat) : Int := zagI (vv b 0 : Int)
def fst_ (b : List Nat) (k : Nat) : Nat × Option (Int × Nat) := if k = 0 then (0, none) else (raS b (vst b 1).1 (vst b 1).2 (k : Int) (fM b)).2
def fD (b : List Nat) (k : Nat) : List Nat := if k = 0 then [] else (raS b (vst b 1).1 (vst b 1).2 (k : Int) (fM b)).1
def fE (b : List Nat) (k : Int) : Int := if k < 0 ∨ 65536 < k then 1 else (endS b (fst_ b k.toNat).1 (fst_ b k.toNat).2).1
def fG (b : List Nat) (k : Int) : List Int := if fE b k = 0 then ups (fM b) (fD b k.toNat) else []
theorem fE_bad {b : List Nat} {k : Int} (h : k < 0 ∨ 65536 < k) : fE b k = 1 ∧ fG b k = [] := by
  have hE : fE b k = 1 := by unfold fE; rw [if_pos h]
  exact ⟨hE, by unfold fG; rw [if_neg (by omega)]⟩
theorem fE_zero (b : List Nat) : fE b 0 = if 0 < b.length then 3 else 0 := by
  unfold fE fst_
  rw [if_neg (by omega), show (0 : Int).toNat = 0 from rfl, if_pos rfl, endS_none]
theorem fG_zero (b : List Nat) : fG b 0 = [] := by
  unfold fG fD
  rw [show (0 : Int).toNat = 0 from rfl, if_pos rfl]
  split <;> rfl
theorem fE_err (b : List Nat) (k : Nat) (y : Int × Nat) (hk : 1 ≤ k ∧ k ≤ 65536) (h : (vst b 1).2 = some y) : fE b (k : Int) = y.1 := by
  have hy := vst_ok b 1 y h
  unfold fE fst_
  rw [if_neg (by omega), Int.toNat_natCast, if_neg (by omega), h, ra_some, endS_some _ _ _ hy]
theorem fE_more (b : List Nat) (hb : ∀ x ∈ b, x < 256) (k : Nat) (hk : 1 ≤ k ∧ k ≤ 65536) (h : (vst b 1).2 = none) : fE b (k : Int) = raE b (vst b 1).1 (k : Int) (fM b) := by
  unfold fE fst_
  rw [if_neg (by omega), Int.toNat_natCast, if_neg (by omega), h, ra_end _ _ _ _ (vst_place b hb h)]
theorem fM_in {b : List Nat} (hb : ∀ x ∈ b, x < 256) : In64 (fM b) := zagI_in (vv_lt hb 0)
theorem fD_lt (b : List Nat) (k : Nat) : (∀ a ∈ fD b k, a < 18446744073709551616) ∧ (fD b k).length ≤ 65536 := by
  unfold fD
  split
  · simp
  · exact ra_lt _ _ _ _ _
theorem fG_length (b : List Nat) (k : Int) : (fG b k).length ≤ 65536 := by
  unfold fG
  split
  · rw [ups_length]; exact (fD_lt _ _).2
  · simp
theorem ra_zero {b : List Nat} {at_ : Nat} {n m : Int} (h : raE b at_ n m = 0) : rbE b at_ n = 0 ∧ fitB m (rbS b at_ none n).1 = true := by
  unfold raE at h
  by_cases h0 : rbE b at_ n = 0
  · rw [if_pos h0] at h
    by_cases hf : fitB m (rbS b at_ none n).1 = true
    · exact ⟨h0, hf⟩
    · rw [if_neg hf] at h; omega
  · rw [if_neg h0] at h; exact absurd h h0
theorem fE_vst {b : List Nat} {k : Nat} (hk : 1 ≤ k ∧ k ≤ 65536) (h : fE b (k : Int) = 0) : (vst b 1).2 = none := by
  cases hx : (vst b 1).2 with
  | none => rfl
  | some y =>
    rw [fE_err b k y hk hx] at h
    exact absurd h (vst_ok b 1 y hx)
theorem fD_ok {b : List Nat} (hb : ∀ x ∈ b, x < 256) {k : Nat} (hk : k ≤ 65536) (h : fE b (k : Int) = 0) : (fD b k).length = k ∧ ∀ d ∈ fD b k, d ≤ roomI (fM b) := by
  rcases Nat.eq_zero_or_pos k with h0 | h0
  · subst h0; unfold fD; simp
  · have hx := fE_vst ⟨h0, hk⟩ h
    rw [fE_more b hb k ⟨h0, hk⟩ hx] at h
    obtain ⟨h1, h2⟩ := ra_zero h
    obtain ⟨v, e1, e2, e3, e4, e5⟩ := rb_take b (vst b 1).1 (k : Int) h1
    have hpa := pack_again (b.drop ((vst b 1).1 + 1)) (k : Int) v (fun x hx => hb x (List.mem_of_mem_drop hx)) e3
    have hD : fD b k = (rbS b (vst b 1).1 none (k : Int)).1 := by
      unfold fD; rw [if_neg (by omega), hx]; rfl
    rw [hD]
    refine ⟨by rw [e5, hpa.2.2.1]; omega, (fitB_iff.1 h2).2⟩
end Go.Proofs.YticanhidahkhfaaGreatDoor
namespace Go.Proofs.YticanhidahkhfaaGreatDoor
open Go.RowKit
set_option linter.unusedVariables false
set_option linter.unusedSimpArgs false
set_option maxRecDepth 100000
def notAt (L : List Nat) (x : Nat) (j : Nat) : Bool := !decide (L[j]? = some x)
theorem notAt_all (L : List Nat) (x n : Nat) (h : L.length = n) : (!(List.range n).all (notAt L x)) = L.contains x := by
  rw [Bool.eq_iff_iff]
  constructor
  · intro h1
    have h2 : (List.range n).all (notAt L x) = false := by simpa using h1
    obtain ⟨j, hj, hf⟩ := List.all_eq_false.1 h2
    unfold notAt at hf
    have : L[j]? = some x := by simpa using hf
    simpa using List.mem_of_getElem? this
  · intro h1
    have h2 : x ∈ L := by simpa using h1
    obtain ⟨j, hj⟩ := List.getElem?_of_mem h2
    have hl := (List.getElem?_eq_some_iff.1 hj).1
    have h3 : (List.range n).all (notAt L x) = false := List.all_eq_false.2 ⟨j, by simp; omega, by simp [notAt, hj]⟩
    simp [h3]
theorem indexU_any (A : Option Addr) (n c : Nat) (L : List Nat) (x : Nat) (w : World) (hr : Reads w w.heap.size 1 A n (us L)) (hn : n ≤ 140737488355328) :
    Calls Tryz.prog 299 #[.slice A n c, .int .u64 (x : Int)] w fun e w' => e = .returned (.int .i64 (missI (notAt L x) n)) ∧ w = w' := by
  go_enter Tryz.func299, Tryz.ntmps299
  go_wp2_with fail
  go_loop [8] (fun s8 => ∃ k : Nat, k ≤ n ∧ s8 = .int .i64 (k : Int) ∧ ∀ j, j < k → notAt L x j = true) (fun i => n - (intOf i).toNat)
  case atStart => exact ⟨0, Nat.zero_le _, rfl, fun j h => absurd h (by omega)⟩
  case round =>
    obtain ⟨k, hk, rfl, hall⟩ := hrel
    obtain ⟨h1, h2⟩ := find_step hk hall
    by_cases hlt : k < n
    · obtain ⟨ad, u, rfl, _, hu, hc⟩ := hr.at_ hlt
      obtain ⟨a, ha, rfl⟩ := us_at hu
      by_cases hax : x = a
      · subst hax
        have HM := Lib.hid (h1 hlt (by simp [notAt, ha]))
        clear h1 h2 hall ha hu
        go_wp2_with fail
        go_ret
        exact ⟨by rw [HM.out]; rfl, rfl⟩
      · have q1 : ((x : Int) == (a : Int)) = false := by simp; omega
        have HALL : Hid (∀ j, j < k + 1 → notAt L x j = true) := Lib.hid fun j hj => by
          rcases Nat.lt_or_ge j k with h | h
          · exact hall j h
          · obtain rfl : j = k := by omega
            simp [notAt, ha]; omega
        clear h1 h2 hall ha hu hax
        go_wp2_with fail
        go_round
        case rel => exact ⟨k + 1, by omega, by go_num, HALL.out⟩
        case measure => simp [intOf]; omega
    · have HM := Lib.hid (h2 (by omega))
      clear h1 h2 hall
      go_wp2_with fail
      go_ret
      exact ⟨by rw [HM.out]; rfl, rfl⟩
theorem containsU_any (A : Option Addr) (n c : Nat) (L : List Nat) (x : Nat) (w : World) (hr : Reads w w.heap.size 1 A n (us L)) (hn : n ≤ 140737488355328) :
    Calls Tryz.prog 285 #[.slice A n c, .int .u64 (x : Int)] w fun e w' => e = .returned (.bool (L.contains x)) ∧ w = w' := by
  have hm := miss_all (f := notAt L x) (n := n)
  have HC := Lib.hid (indexU_any A n c L x w hr hn)
  have ha := notAt_all L x n (by have := hr.1; rw [us_length] at this; omega)
  obtain ⟨m, hme⟩ : ∃ m, m = missI (notAt L x) n := ⟨_, rfl⟩
  rw [← hme] at hm HC
  have HM : Hid (decide (0 ≤ m) = L.contains x) := Lib.hid (by
    rw [← ha]
    cases h : (List.range n).all (notAt L x) with
    | true =>
      have : ¬ 0 ≤ m := fun h1 => by have := hm.1 h1; rw [h] at this; cases this
      simp [this]
    | false => simp [hm.2 h])
  clear hm hme ha
  go_enter Tryz.func285, Tryz.ntmps285
  go_wp2_with fail
  refine HC.out.mono ?_
  rintro e w' ⟨rfl, rfl⟩
  go_wp2_with fail
  go_ret
  exact ⟨by rw [← HM.out]; rfl, rfl⟩
end Go.Proofs.YticanhidahkhfaaGreatDoor
