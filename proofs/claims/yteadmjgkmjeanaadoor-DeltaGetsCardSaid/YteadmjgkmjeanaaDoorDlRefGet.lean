/- The document's reading of the form of steps: the numbers, or the error's number. -/
import Derived.Deep.QuietTactic
import Derived.BigQuiet
import Derived.Laws.OwnMore
import Derived.Test.YteadmjgkmjeanaaDoorJ27
import Derived.Test.YteadmjgkmjeanaaDoorDlRefSums
import Derived.Test.YteadmjgkmjeanaaDoorRfFar
import Derived.Test.YteadmjgkmjeanaaDoorRefVar
import Derived.Test.YteadmjgkmjeanaaDoorRefFix
import Derived.Test.YteadmjgkmjeanaaDoorRefZag
import Derived.Test.YteadmjgkmjeanaaDoorRefUnpack
import Derived.Test.YteadmjgkmjeanaaDoorJ31
namespace Go.Proofs.YteadmjgkmjeanaaDoor
open Go.RowKit
set_option linter.unusedVariables false
set_option linter.unusedSimpArgs false
set_option maxRecDepth 100000

theorem refDlGet_no (A : Option Addr) (n c : Nat) (b : List Nat) (k : Int) (w : World) (h : k < 0 ∨ 65536 < k) :
    Calls Tryd.prog 7 #[.slice A n c, .int .i64 k] w (NewLE w (dG b k) (dE b k)) := by
  obtain ⟨h1, h2⟩ := dE_bad (b := b) h
  rw [h1, h2]
  clear h1 h2
  by_cases hk : k < 0
  · clear h
    go_enter Tryd.func7, Tryd.ntmps7
    go_wp2_with fail
    go_ret2
    exact ⟨.slice none 0 0, rfl, own_nil _ _ _ _, Below.refl _ _⟩
  · have d1 : decide (k < 0) = false := by simp; omega
    have h2 : 65536 < k := by omega
    clear h
    go_enter Tryd.func7, Tryd.ntmps7
    go_wp2_with fail
    go_ret2
    exact ⟨.slice none 0 0, rfl, own_nil _ _ _ _, Below.refl _ _⟩
theorem refDlGet_zero (A : Option Addr) (n c : Nat) (b : List Nat) (w : World) (hr : Reads w w.heap.size 1 A n (bs b)) :
    Calls Tryd.prog 7 #[.slice A n c, .int .i64 0] w (NewLE w (dG b 0) (dE b 0)) := by
  have e1 : b.length = n := by have := hr.1; rw [bs_length] at this; omega
  have hE := dE_zero b
  rw [e1] at hE
  have hL : dL b (0 : Int).toNat = [] := rfl
  by_cases h : 0 < n
  · rw [if_pos h] at hE
    have hG : dG b 0 = [] := by unfold dG; rw [hE, if_neg (by omega)]
    rw [hE, hG]
    clear hE hG hL e1
    go_enter Tryd.func7, Tryd.ntmps7
    go_wp2_with fail
    go_ret2
    exact ⟨.slice none 0 0, rfl, own_nil _ _ _ _, Below.refl _ _⟩
  · rw [if_neg h] at hE
    have hG : dG b 0 = [] := by unfold dG; rw [hE, if_pos rfl, hL]; rfl
    rw [hE, hG]
    clear hE hG hL e1
    go_enter Tryd.func7, Tryd.ntmps7
    go_wp2_with fail
    go_ret2
    exact ⟨.slice none 0 0, rfl, own_nil _ _ _ _, Below.refl _ _⟩
theorem rvar_0 {w : World} {g : Nat} {b : List Nat} (h : RfS w g b 0 none) :
    Calls Tryd.prog 19 #[.pointer (some ⟨g, 0, none⟩)] w fun e w' => e = .returned (.int .u64 (vv b 0 : Int)) ∧ RfTo w g b (vst b 1).1 (vst b 1).2 w' := rvar_is h
theorem RfS.cell1 {w : World} {g : Nat} {l : List Nat} {at_ : Nat} {x : Option (Int × Nat)} (h : RfS w g l at_ x) : w.cell? ⟨g, 1, none⟩ = some (.int .i64 (at_ : Int)) := by
  obtain ⟨⟨A, n, c, hR⟩, _⟩ := h
  rw [hR.blk.cell]; rfl
set_option maxHeartbeats 2000000 in
theorem refDlGet_err (A : Option Addr) (n c N : Nat) (b : List Nat) (y : Int × Nat) (w : World) (hr : Reads w w.heap.size 1 A n (bs b)) (hb : ∀ x ∈ b, x < 256) (hnc : n ≤ c) (hn : n ≤ 140737488355328) (hN : 1 ≤ N ∧ N ≤ 65536) (hx : (vst b 1).2 = some y) :
    Calls Tryd.prog 7 #[.slice A n c, .int .i64 (N : Int)] w (NewLE w (dG b (N : Int)) (dE b (N : Int))) := by
  have hE := dE_err b N y hN hx
  have hy := vst_ok b 1 y hx
  have hG : dG b (N : Int) = [] := by unfold dG; rw [hE, if_neg hy]
  rw [hE, hG]
  have d1 : decide ((N : Int) < 0) = false := by simp
  have d2 : decide ((65536 : Int) < (N : Int)) = false := by simp; omega
  have q0 : ((N : Int) == 0) = false := by simp; omega
  have hS1 := rf_new hr hnc hn hb
  have hv0 := vv_lt hb 0
  have HX := Lib.hid hx
  obtain ⟨y1, hy1⟩ : ∃ r, r = y.1 := ⟨_, rfl⟩
  rw [← hy1] at hy ⊢
  have HY := Lib.hid hy1
  have q1 : (y1 != 0) = true := by simp [hy]
  have q2 : (y1 == 0) = false := by simp [hy]
  clear hE hG hx hy1 hb hy
  go_enter Tryd.func7, Tryd.ntmps7
  go_wp2_with fail
  refine (rvar_0 hS1).mono ?_
  rintro e w3 ⟨rfl, hS3, hG3⟩
  have hb3 : Below w.heap.size w w3 := ((Below.refl _ _).alloc (Nat.le_refl _) _).grown hG3 (by simp) (fun j hj => by injection hj with hj; omega)
  rw [HX.out] at hS3
  have hc2 := (hS3.alloc (.cells #[.int .i64 (zagI (vv b 0 : Int))] 2)).cellE
  have hc2' : (w3.alloc (.cells #[.int .i64 (zagI (vv b 0 : Int))] 2)).cell? ⟨w.heap.size, 2, none⟩ = some (.int .i64 y1) := by rw [hc2, HY.out]; rfl
  clear hS1 hG3 hS3 hc2
  go_wp2_with fail
  refine (refZag_any (vv b 0) w3 hv0).mono ?_
  rintro e w' ⟨rfl, rfl⟩
  go_wp2_with fail
  go_quiet (fail)
  go_wp2_with fail
  go_ret2
  exact ⟨.slice none 0 0, rfl, own_nil _ _ _ _, (Drawn.one _ _).below (hb3.alloc hb3.size _)⟩
set_option maxHeartbeats 2000000 in
theorem refDlGet_one (A : Option Addr) (n c : Nat) (b : List Nat) (w : World) (hr : Reads w w.heap.size 1 A n (bs b)) (hb : ∀ x ∈ b, x < 256) (hnc : n ≤ c) (hn : n ≤ 140737488355328) (hx : (vst b 1).2 = none) :
    Calls Tryd.prog 7 #[.slice A n c, .int .i64 1] w (NewLE w (dG b 1) (dE b 1)) := by
  have e1 : b.length = n := by have := hr.1; rw [bs_length] at this; omega
  have hE := dE_one b hx
  have hL : dL b (1 : Int).toNat = [zagI (vv b 0 : Int)] := rfl
  have hv0 := vv_lt hb 0
  have hs : sms 0 [zagI (vv b 0 : Int)] = [zagI (vv b 0 : Int)] := by
    simp only [sms]; rw [show (0 : Int) + zagI (vv b 0 : Int) = zagI (vv b 0 : Int) by omega, w64_id (zagI_in hv0)]
  have hG : dG b 1 = if dE b 1 = 0 then [zagI (vv b 0 : Int)] else [] := by unfold dG; rw [hL, hs]
  have hS1 := rf_new hr hnc hn hb
  have hpl := vst_place b hb hx
  obtain ⟨a1, ha1⟩ : ∃ a, a = (vst b 1).1 := ⟨_, rfl⟩
  have HX := Lib.hid hx; have HA := Lib.hid ha1
  rw [e1, ← ha1] at hE
  rw [e1, ← ha1] at hpl
  have HE := Lib.hid hE; have HG := Lib.hid hG
  clear hE hG hL hs hx ha1 hb e1
  go_enter Tryd.func7, Tryd.ntmps7
  go_wp2_with fail
  refine (rvar_0 hS1).mono ?_
  rintro e w3 ⟨rfl, hS3, hG3⟩
  have hb3 : Below w.heap.size w w3 := ((Below.refl _ _).alloc (Nat.le_refl _) _).grown hG3 (by simp) (fun j hj => by injection hj with hj; omega)
  rw [HX.out, ← HA.out] at hS3
  have hS4 := hS3.alloc (.cells #[.int .i64 (zagI (vv b 0 : Int))] 2)
  have hc2 : (w3.alloc (.cells #[.int .i64 (zagI (vv b 0 : Int))] 2)).cell? ⟨w.heap.size, 2, none⟩ = some (.int .i64 0) := hS4.cellE
  have hc1 := hS4.cell1
  have hown : (w3.alloc (.cells #[.int .i64 (zagI (vv b 0 : Int))] 2)).ownsRow w.heap.size 2 1 (.slice (some ⟨w3.heap.size, 0, none⟩) 1 1) 1 (zs [zagI (vv b 0 : Int)]) :=
    World.ownsRow_lit w3 #[.int .i64 (zagI (vv b 0 : Int))] 1 hb3.size (by unfold maxLen; omega) rfl
  have hb4 : Below w.heap.size w (w3.alloc (.cells #[.int .i64 (zagI (vv b 0 : Int))] 2)) := hb3.alloc hb3.size _
  clear hS1 hG3 hS3 hS4 hb3
  go_wp2_with fail
  refine (refZag_any (vv b 0) w3 hv0).mono ?_
  rintro e w' ⟨rfl, rfl⟩
  by_cases hlt : a1 < n
  · have h1 : dE b 1 = 3 := by rw [HE.out, if_pos hlt]
    have h2 : dG b 1 = [] := by rw [HG.out, h1, if_neg (by omega)]
    have H := Lib.hid (And.intro h1 h2)
    clear h1 h2
    go_wp2_with fail
    go_ret2
    rw [H.out.1, H.out.2]
    exact ⟨.slice none 0 0, rfl, own_nil _ _ _ _, hb4⟩
  · have h1 : dE b 1 = 0 := by rw [HE.out, if_neg hlt]
    have h2 : dG b 1 = [zagI (vv b 0 : Int)] := by rw [HG.out, h1, if_pos rfl]
    have H := Lib.hid (And.intro h1 h2)
    clear h1 h2
    go_wp2_with fail
    go_ret2
    rw [H.out.1, H.out.2]
    exact ⟨_, rfl, hown, hb4⟩
/-- What stands behind so many rounds of the loop over the steps behind the first number. -/
def InRef (w wr : World) (B : Nat) (A5 : Option Addr) (L : List Nat) (z0 : Int) (k : Nat) (v : Value) : Prop :=
  wr.ownsRow B 2 1 v (k + 1) (zs (z0 :: (L.take k).map fun v : Nat => zagI (v : Int))) ∧ OffR wr v.ownBlock A5 L.length (us L) ∧ Below w.heap.size w wr
theorem zs_cons_snoc' (z y : Int) (l : List Int) : zs (z :: l) ++ [Value.int .i64 y] = zs (z :: (l ++ [y])) := by simp [zs]
theorem map_step' {l : List Nat} {k v : Nat} (h : l[k]? = some v) : (l.take (k + 1)).map (fun v : Nat => zagI (v : Int)) = (l.take k).map (fun v : Nat => zagI (v : Int)) ++ [zagI (v : Int)] := by
  rw [take_snoc h]; simp
set_option maxHeartbeats 4000000 in
theorem refDlGet_more (A : Option Addr) (n c N : Nat) (b : List Nat) (w : World) (hr : Reads w w.heap.size 1 A n (bs b)) (hb : ∀ x ∈ b, x < 256) (hnc : n ≤ c) (hn : n ≤ 140737488355328) (hN : 2 ≤ N ∧ N ≤ 65535) (hx : (vst b 1).2 = none) :
    Calls Tryd.prog 7 #[.slice A n c, .int .i64 (N : Int)] w (NewLE w (dG b (N : Int)) (dE b (N : Int))) := by
  obtain ⟨i1, hi1, hy0, hy1, hy2⟩ := info_parts info_i64
  have e1 : b.length = n := by have := hr.1; rw [bs_length] at this; omega
  have d1 : decide ((N : Int) < 0) = false := by simp
  have d2 : decide ((65536 : Int) < (N : Int)) = false := by simp; omega
  have q0 : ((N : Int) == 0) = false := by simp; omega
  have q1 : ((N : Int) == 1) = false := by simp; omega
  have hE := dE_more b hb N (by omega) hx
  have hv0 := vv_lt hb 0
  have hS1 := rf_new hr hnc hn hb
  have hpl := vst_place b hb hx
  have hG : dG b (N : Int) = if dE b (N : Int) = 0 then sms 0 (dL b N) else [] := by unfold dG; rw [Int.toNat_natCast]
  have hL : dL b N = zagI (vv b 0 : Int) :: ((rbS b (vst b 1).1 none ((N : Int) - 1)).1.map fun v : Nat => zagI (v : Int)) := by
    unfold dL; rw [if_neg (by omega), if_neg (by omega), hx]
  obtain ⟨a1, ha1⟩ : ∃ a, a = (vst b 1).1 := ⟨_, rfl⟩
  rw [← ha1] at hE hL hpl
  have htk := rb_take b a1 ((N : Int) - 1)
  obtain ⟨R, hR⟩ : ∃ R, R = dE b (N : Int) := ⟨_, rfl⟩
  rw [← hR] at hE hG ⊢
  rw [← hE] at htk
  have HX := Lib.hid hx; have HA := Lib.hid ha1; have HE := Lib.hid hE; have HG := Lib.hid hG; have HL := Lib.hid hL; have HT := Lib.hid htk; have HB := Lib.hid hb; have E1 := Lib.hid e1
  clear hx ha1 hE hG hL htk hb hR
  go_enter Tryd.func7, Tryd.ntmps7
  go_wp2_with fail
  refine (rvar_0 hS1).mono ?_
  rintro e w3 ⟨rfl, hS3, hG3⟩
  have hb3 : Below w.heap.size w w3 := ((Below.refl _ _).alloc (Nat.le_refl _) _).grown hG3 (by simp) (fun j hj => by injection hj with hj; omega)
  rw [HX.out, ← HA.out] at hS3
  have hz3 : w.heap.size < w3.heap.size := hS3.lt
  have hS4 := hS3.alloc (.cells #[.int .i64 (zagI (vv b 0 : Int))] 2)
  have hc2 : (w3.alloc (.cells #[.int .i64 (zagI (vv b 0 : Int))] 2)).cell? ⟨w.heap.size, 2, none⟩ = some (.int .i64 0) := hS4.cellE
  have hown4 : (w3.alloc (.cells #[.int .i64 (zagI (vv b 0 : Int))] 2)).ownsRow w3.heap.size 2 1 (.slice (some ⟨w3.heap.size, 0, none⟩) 1 1) 1 (zs [zagI (vv b 0 : Int)]) :=
    World.ownsRow_lit w3 #[.int .i64 (zagI (vv b 0 : Int))] 1 (Nat.le_refl _) (by unfold maxLen; omega) rfl
  have hb4 : Below w.heap.size w (w3.alloc (.cells #[.int .i64 (zagI (vv b 0 : Int))] 2)) := hb3.alloc hb3.size _
  clear hS1 hG3 hS3 hb3
  go_wp2_with fail
  refine (refZag_any (vv b 0) w3 hv0).mono ?_
  rintro e w' ⟨rfl, rfl⟩
  go_wp2_with fail
  refine (rfix_is 1 hS4).mono ?_
  rintro e w5 ⟨rfl, hS5, hG5⟩
  have hown5 := own_before hown4 hG5 (fun r hr => by injection hr with hr; omega)
  have hb5 : Below w.heap.size w w5 := hb4.grown hG5 hb4.size (fun j hj => by injection hj with hj; omega)
  have hz5 : w3.heap.size < w5.heap.size := by have := hG5.size; simp at this; omega
  clear hown4 hb4 hS4 hG5 hc2
  cases hat : b[a1]? with
  | none =>
    have hae : a1 = n := by have := List.getElem?_eq_none_iff.1 hat; omega
    have hR2 : R = 2 := by rw [HE.out]; unfold rbE; rw [hat]
    have hf : fixS b a1 none 1 = (0, a1, some (2, a1)) := by unfold fixS; simp only; rw [if_neg (by omega), if_pos (by omega)]
    rw [hf] at hS5 ⊢
    have hc5 : w5.cell? ⟨w.heap.size, 2, none⟩ = some (.int .i64 2) := hS5.cellE
    have hG0 := HG.out
    rw [hR2, if_neg (by omega)] at hG0
    subst hR2
    have HG0 := Lib.hid hG0
    clear hat hf hG0 hae hS5 hown5
    go_wp2_with fail
    go_quiet (fail)
    go_wp2_with fail
    go_ret2
    rw [HG0.out]
    exact ⟨.slice none 0 0, rfl, own_nil _ _ _ _, (Drawn.one _ _).below hb5⟩
  | some v =>
    rw [fix_byte b a1 v hat] at hS5 ⊢
    have hv256 := HB.out v (List.mem_of_getElem? hat)
    have hal : a1 + 1 ≤ n := by have := (List.getElem?_eq_some_iff.1 hat).1; omega
    have hRv : R = (if 64 < v then 5 else if unpackE (b.drop (a1 + 1)) ((N : Int) - 1) v = 0 then (if wd (unpackS (b.drop (a1 + 1)) ((N : Int) - 1) v) = v then 0 else 4) else (unpackE (b.drop (a1 + 1)) ((N : Int) - 1) v : Int)) := by
      rw [HE.out]; unfold rbE; rw [hat]
    have hc5 : w5.cell? ⟨w.heap.size, 2, none⟩ = some (.int .i64 0) := hS5.cellE
    have hc51 : w5.cell? ⟨w.heap.size, 1, none⟩ = some (.int .i64 ((a1 : Int) + 1)) := by have := hS5.cell1; simpa using this
    by_cases h64 : 64 < v
    · rw [if_pos h64] at hRv
      have hG0 := HG.out
      rw [hRv, if_neg (by omega)] at hG0
      subst hRv
      have HG0 := Lib.hid hG0
      clear hat hG0 hown5
      go_wp2_with fail
      go_ret2
      rw [HG0.out]
      exact ⟨.slice none 0 0, rfl, own_nil _ _ _ _, hb5⟩
    · rw [if_neg h64] at hRv
      have e5 := fun h0 : R = 0 => (HT.out h0)
      obtain ⟨t, ht⟩ : ∃ t, t = b.drop (a1 + 1) := ⟨_, rfl⟩
      obtain ⟨a2, ha2⟩ : ∃ a2, a2 = a1 + 1 := ⟨_, rfl⟩
      have hcut : Reads w5 w5.heap.size 1 (if c = a2 then A else Option.map (fun x => x.add a2) A) (n - a2) (bs t) := by
        have h1 := ((hr.below hb5).more hb5.size).cut (k := a2) (cap := c) (by omega) hnc
        simp only [Nat.mul_one] at h1
        rwa [bs_drop, ha2, ← ht, ← ha2] at h1
      have htb : ∀ x ∈ t, x < 256 := fun x hx => HB.out x (List.mem_of_mem_drop (by rw [← ht]; exact hx))
      rw [← ht] at hRv e5
      have hc52 : w5.cell? ⟨w.heap.size, 1, none⟩ = some (.int .i64 (a2 : Int)) := by rw [hc51, ha2]; rfl
      have ha2n : a2 ≤ n := by omega
      have ha2c : a2 ≤ c := by omega
      obtain ⟨P, hP⟩ : ∃ P, (if c = a2 then A else Option.map (fun x => x.add a2) A) = P := ⟨_, rfl⟩
      rw [hP] at hcut
      have hcall := refUnpack_any P (n - a2) (c - a2) t ((N : Int) - 1) v w5 hcut htb (by omega) (by omega) (by omega)
      have hLl := unpackS_lt t ((N : Int) - 1) v
      have hrbL : R = 0 → (rbS b a1 none ((N : Int) - 1)).1 = unpackS t ((N : Int) - 1) v := fun h0 => by
        obtain ⟨v', f1, _, _, _, f5⟩ := e5 h0
        rw [hat] at f1
        injection f1 with f1
        subst f1
        exact f5
      obtain ⟨L, hLd⟩ : ∃ L, L = unpackS t ((N : Int) - 1) v := ⟨_, rfl⟩
      obtain ⟨E, hEd⟩ : ∃ E, E = unpackE t ((N : Int) - 1) v := ⟨_, rfl⟩
      rw [← hLd] at hcall hLl hRv hrbL
      rw [← hEd] at hcall hRv
      obtain ⟨K, hK⟩ : ∃ K, K = wd L := ⟨_, rfl⟩
      rw [← hK] at hRv
      obtain ⟨hL64, hLn⟩ := hLl
      have HC := Lib.hid hcall; have HRv := Lib.hid hRv; have HRL := Lib.hid hrbL; have HLV := Lib.hid hL64; have HK := Lib.hid hK
      have h64i : ¬ (64 : Int) < (v : Int) := by omega
      clear hcall hRv hrbL hL64 hLd hEd hK e5 hcut htb hat hS5 hc51 ht ha2 hal
      go_wp2_with fail
      refine HC.out.mono ?_
      rintro e w6 ⟨v6, rfl, hown6, hb6⟩
      obtain ⟨A6, c6, rfl, _, _, r6⟩ := own_slice hown6
      have hb06 := hb5.trans (hb6.mono hb5.size)
      have hown56 := own_below hown5 hb6
      have hO6 : OffR w6 (Value.slice (some ⟨w3.heap.size, 0, none⟩) 1 1).ownBlock A6 L.length (us L) := OffR.of_own hown6 _ (fun q hq => (hown5.lt q hq).2)
      have hz6 := hb6.size
      clear hown5 hb6 hown6 HC hP hc5 hc52
      by_cases hE0 : E = 0
      · have HRv2 : Hid (R = if K = v then 0 else 4) := Lib.hid (by rw [HRv.out, if_pos hE0])
        subst hE0
        clear HRv
        go_wp2_with fail
        refine (refWidth_any A6 L.length c6 L w6 r6 HLV.out (by omega)).mono ?_
        rintro e w' ⟨rfl, rfl⟩
        rw [← HK.out]
        by_cases hKv : K = v
        · have q2 : ((K : Int) != (v : Int)) = false := by simp; omega
          have HR0 : Hid (R = 0) := Lib.hid (by rw [HRv2.out, if_pos hKv])
          have hlen : (dL b N).length = L.length + 1 := by rw [HL.out, HRL.out HR0.out]; simp
          have HLL : Hid (dL b N = zagI (vv b 0 : Int) :: L.map fun v : Nat => zagI (v : Int)) := Lib.hid (by rw [HL.out, HRL.out HR0.out])
          have HIN := Lib.hid (dL_in HB.out N)
          have hin : InRef w w6 w3.heap.size A6 L (zagI (vv b 0 : Int)) 0 (.slice (some ⟨w3.heap.size, 0, none⟩) 1 1) := ⟨hown56, hO6, hb06⟩
          clear hKv HRv2 hown56 hO6 hb06 r6
          go_wp2_with fail
          go_loopw [7, 11] (fun s7 s11 wr => ∃ k : Nat, k ≤ L.length ∧ s11 = .int .i64 (k : Int) ∧ w3.heap.size ≤ wr.heap.size ∧ InRef w wr w3.heap.size A6 L (zagI (vv b 0 : Int)) k s7) (fun _ i _ => L.length - (intOf i).toNat)
          case atStart => exact ⟨0, Nat.zero_le _, rfl, by omega, hin⟩
          case round =>
            clear hin
            obtain ⟨k, hk, rfl, hzr, hown, hO, hbr⟩ := hrel
            by_cases hlt : k < L.length
            · obtain ⟨ad, u, rfl, _, hu, hc⟩ := hO.reads.at_ hlt
              obtain ⟨x, hx, rfl⟩ := us_at hu
              have hx64 := HLV.out x (List.mem_of_getElem? hx)
              have HS := Lib.hid (map_step' hx)
              clear hu hx
              go_wp2_with fail
              refine (refZag_any x wr hx64).mono ?_
              rintro e w' ⟨rfl, rfl⟩
              go_wp2_with (at_builtin
                           refine wpList_append_any _ rfl (.tmp 89) (.tmp 95) _ rfl w3.heap.size 2 i1 _ 1 8 Tryd.underlying24 hi1 hy0 hy1 hy2 rfl (by omega) u7 (k + 1) (zs (zagI (vv b 0 : Int) :: (L.take k).map fun v : Nat => zagI (v : Int))) rfl
                             (hown.alloc _) (wr.heap.size + 1) (some ⟨wr.heap.size, 0, none⟩) 1 1 [.int .i64 (zagI (x : Int))] rfl (Reads.new wr _ _) (one_int _ _) (by unfold maxLen; omega) (by omega) (by simp; omega) ?_
                           intro v8 w8 hown8 hg8 hat8)
              go_round
              case rel =>
                refine ⟨k + 1, by omega, by go_num, by have := hg8.size; simp at this; omega, ?_, (hO.alloc _).grown hg8 hat8, below_app hbr (own_base hown (by omega)) hbr.size hg8⟩
                rw [HS.out, ← zs_cons_snoc']
                exact hown8
              case measure => simp [intOf]; omega
            · obtain rfl : k = L.length := by omega
              rw [List.take_of_length_le (Nat.le_refl _), ← HLL.out] at hown
              obtain ⟨A7, c7, rfl, hc7, _, r7⟩ := own_slice hown
              clear hown hO hk
              go_wp2_with fail
              refine (refSums_any A7 (L.length + 1) c7 (dL b N) wr r7 HIN.out hc7 (by omega)).mono ?_
              rintro e w9 ⟨v9, rfl, hown9, hb9⟩
              go_wp2_with fail
              go_ret2
              rw [HG.out, HR0.out, if_pos rfl]
              refine ⟨v9, rfl, ?_, hbr.trans (hb9.mono hbr.size)⟩
              rw [sms_length, hlen]
              exact own_base hown9 hbr.size
        · have q2 : ((K : Int) != (v : Int)) = true := by simp; omega
          have HR4 : Hid (R = 4) := Lib.hid (by rw [HRv2.out, if_neg hKv])
          clear hKv HRv2 hown56 hO6 r6
          go_wp2_with fail
          go_ret2
          rw [HG.out, HR4.out, if_neg (by omega)]
          exact ⟨.slice none 0 0, rfl, own_nil _ _ _ _, hb06⟩
      · have HRE : Hid (R = (E : Int)) := Lib.hid (by rw [HRv.out, if_neg hE0])
        have q2 : ((E : Int) != 0) = true := by simp; omega
        have HE0 := Lib.hid hE0
        clear hE0 HRv hown56 hO6 r6
        go_wp2_with fail
        go_ret2
        have hne : ¬ ((E : Int) = 0) := by have := HE0.out; omega
        rw [HG.out, HRE.out, if_neg hne]
        exact ⟨.slice none 0 0, rfl, own_nil _ _ _ _, hb06⟩
theorem refDlGet_any (A : Option Addr) (n c : Nat) (k : Int) (b : List Nat) (w : World) (hr : Reads w w.heap.size 1 A n (bs b)) (hb : ∀ x ∈ b, x < 256) (hnc : n ≤ c) (hn : n ≤ 140737488355328) (hk : k ≤ 1000 ∨ 65536 < k) :
    Calls Tryd.prog 7 #[.slice A n c, .int .i64 k] w (NewLE w (dG b k) (dE b k)) := by
  by_cases h : k < 0 ∨ 65536 < k
  · exact refDlGet_no A n c b k w h
  · obtain ⟨N, rfl⟩ : ∃ N : Nat, k = (N : Int) := ⟨k.toNat, by omega⟩
    by_cases h0 : N = 0
    · subst h0; exact refDlGet_zero A n c b w hr
    · cases hx : (vst b 1).2 with
      | some y => exact refDlGet_err A n c N b y w hr hb hnc hn (by omega) hx
      | none =>
        by_cases h1 : N = 1
        · subst h1; exact refDlGet_one A n c b w hr hb hnc hn hx
        · exact refDlGet_more A n c N b w hr hb hnc hn (by omega) hx
end Go.Proofs.YteadmjgkmjeanaaDoor
