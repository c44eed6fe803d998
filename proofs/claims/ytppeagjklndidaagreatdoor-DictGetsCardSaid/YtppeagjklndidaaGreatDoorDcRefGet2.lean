/- The document's reading of the form by a list, where its count goes well. -/
import Derived.Test.YtppeagjklndidaaGreatDoorDcRefGet
namespace Go.Proofs.YtppeagjklndidaaGreatDoor
open Go.RowKit
set_option linter.unusedVariables false
set_option linter.unusedSimpArgs false
set_option maxRecDepth 100000

theorem ldR_first {b : List Nat} {v a : Nat} {x : Option (Int × Nat)} (h : varS b (ldS b 0).1.1 (ldS b 0).1.2 = (v, a, x)) : ldS b 1 = ((a, x), zagI (v : Int)) := by
  conv => lhs; unfold ldS
  simp only
  rw [if_pos trivial, h]
theorem ldR_more {b : List Nat} {k v a : Nat} {x : Option (Int × Nat)} (hk : k ≠ 0) (h : varS b (ldS b k).1.1 (ldS b k).1.2 = (v, a, x)) :
    ldS b (k + 1) = (if wrap64 ((ldS b k).2 + v + 1) ≤ (ldS b k).2 then (a, failS a x 4) else (a, x), wrap64 ((ldS b k).2 + v + 1)) := by
  conv => lhs; unfold ldS
  simp only
  rw [if_neg hk, h]
theorem zs_ldL {b : List Nat} {k : Nat} {z : Int} (h : (ldS b (k + 1)).2 = z) : zs (ldL b (k + 1)) = zs (ldL b k) ++ [.int .i64 z] := by rw [ldL_succ, h, zs_snoc]
set_option maxHeartbeats 4000000 in
theorem refDcGet_more (A : Option Addr) (n c N : Nat) (b : List Nat) (w : World) (hr : Reads w w.heap.size 1 A n (bs b)) (hb : ∀ x ∈ b, x < 256) (hnc : n ≤ c) (hn : n ≤ 140737488355328) (hN : N ≤ 65536) (hx : (vst b 1).2 = none) (hcn : ¬ N < vv b 0) :
    Calls Tryz.prog 7 #[.slice A n c, .int .i64 (N : Int)] w (NewLE w (dcG b (N : Int)) (dcE b (N : Int))) := by
  obtain ⟨i1, hi1, hy0, hy1, hy2⟩ := info_parts info_i64
  have e1 : b.length = n := by have := hr.1; rw [bs_length] at this; omega
  have d1 : decide ((N : Int) < 0) = false := by simp
  have d2 : decide ((65536 : Int) < (N : Int)) = false := by simp; omega
  have hNw : IntKind.u64.wrap (N : Int) = (N : Int) := IntWalk.u64_in _ (by omega)
  have hS1 := rf_new hr hnc hn hb
  have HV := Lib.hid (rvar_first hS1)
  have HLS := Lib.hid (fun (k : Nat) (y : Int × Nat) (hk : k ≤ vv b 0) (h : (ldS b k).1.2 = some y) => dcE_list hN hcn hk h)
  have HRE := Lib.hid (fun h : (ldS b (vv b 0)).1.2 = none => dcE_rest hb hN hcn h)
  have HRG := Lib.hid (fun h : (ldS b (vv b 0)).1.2 = none => fun hE => dcG_rest hb hN hcn h hE)
  have HPL := Lib.hid (fun (k : Nat) (h : (ldS b k).1.2 = none) => ld_place hb h)
  have HRI := Lib.hid (fun h : (ldS b (vv b 0)).1.2 = none => ldL_rise hb _ h)
  have HVL := Lib.hid (fun a x => varS_lt hb a x)
  have HOK := Lib.hid (ldS_ok b)
  have HGE := Lib.hid (fun h : dcE b (N : Int) ≠ 0 => dcG_err h)
  obtain ⟨cc, hcc⟩ : ∃ v, v = vv b 0 := ⟨_, rfl⟩
  rw [← hcc] at HV HLS HRE HRG HRI hcn
  obtain ⟨R, hR⟩ : ∃ R, R = dcE b (N : Int) := ⟨_, rfl⟩
  rw [← hR] at HLS HRE HRG HGE ⊢
  have HB := Lib.hid hb; have E1 := Lib.hid e1; have HX := Lib.hid hx
  have hccN : cc ≤ N := by omega
  clear hx hb hcc hR e1
  go_enter Tryz.func7, Tryz.ntmps7
  go_wp2_with fail
  refine HV.out.mono ?_
  rintro e w3 ⟨rfl, hS3, hG3⟩
  have hb3 : Below w.heap.size w w3 := ((Below.refl _ _).alloc (Nat.le_refl _) _).grown hG3 (by simp) (fun j hj => by injection hj with hj; omega)
  have hS3' := hS3
  rw [HX.out] at hS3
  have hc2 : w3.cell? ⟨w.heap.size, 2, none⟩ = some (.int .i64 0) := hS3.cellE
  have hlt3 := hS3.lt
  have hS30 : RfS w3 w.heap.size b (ldS b 0).1.1 (ldS b 0).1.2 := hS3'
  clear hS1 hG3 HV hS3 hS3'
  go_wp2_with fail
  obtain ⟨g, hg⟩ : ∃ g, g = w.heap.size := ⟨_, rfl⟩
  have HGW := Lib.hid hg
  rw [← hg] at hS30 hlt3 hb3 ⊢
  clear hg hc2
  go_loopw [8, 9] (fun s8 s9 wr => ∃ k : Nat, k ≤ cc ∧ s9 = .int .i64 (k : Int) ∧ wr.ownsRow (g + 1) 2 1 s8 k (zs (ldL b k)) ∧ RfS wr g b (ldS b k).1.1 (ldS b k).1.2 ∧ Below g w wr ∧ g + 1 ≤ wr.heap.size) (fun _ i _ => cc - (intOf i).toNat)
  case atStart => exact ⟨0, Nat.zero_le _, rfl, own_nil _ _ _ _, hS30, hb3, by omega⟩
  case round =>
    clear hS30 hb3 hlt3
    obtain ⟨k, hk, rfl, hown, hS, hbw, hsz⟩ := hrel
    cases hst : (ldS b k).1.2 with
    | some y =>
      have hy := HOK.out k y hst
      have HR := Lib.hid (HLS.out k y hk hst)
      rw [hst] at hS
      obtain ⟨y1, hy1⟩ : ∃ r, r = y.1 := ⟨_, rfl⟩
      rw [← hy1] at hy HR
      have hcE : wr.cell? ⟨g, 2, none⟩ = some (.int .i64 y1) := by rw [hS.cellE, hy1]; rfl
      have q1 : (y1 != 0) = true := by simp [hy]
      have q2 : (y1 == 0) = false := by simp [hy]
      have HY := Lib.hid hy; have HY1 := Lib.hid hy1
      have hfx := rfix_is 1 hS
      rw [show fixS b (ldS b k).1.1 (some y) 1 = (0, (ldS b k).1.1, some y) from rfl] at hfx
      have HF := Lib.hid hfx
      clear hy hy1 hst hown hS hfx
      by_cases hlt : k < cc
      all_goals
        go_wp2_with fail
        refine HF.out.mono ?_
        rintro e w4 ⟨rfl, hS4, hG4⟩
        have hb4 := hbw.grown hG4 (by omega) (fun j hj => by injection hj with hj; omega)
        have hc4 : w4.cell? ⟨g, 2, none⟩ = some (.int .i64 y1) := by rw [hS4.cellE, HY1.out]; rfl
        clear hS4 hG4 hcE hbw
        go_wp2_with fail
        go_quiet (fail)
        go_wp2_with fail
        go_ret2
        rw [HR.out, HGE.out (by rw [HR.out]; exact HY.out)]
        exact ⟨.slice none 0 0, rfl, own_nil _ _ _ _, (Drawn.one _ _).below (HGW.out ▸ hb4)⟩
    | none =>
      by_cases hlt : k < cc
      · have hvar := rvar_is hS
        have hvl := HVL.out (ldS b k).1.1 (ldS b k).1.2
        rcases hvS : varS b (ldS b k).1.1 (ldS b k).1.2 with ⟨v, a2, x2⟩
        rw [hvS] at hvar hvl
        simp only at hvar hvl
        have HVR := Lib.hid hvar
        rw [hst] at hS
        have hcE : wr.cell? ⟨g, 2, none⟩ = some (.int .i64 0) := hS.cellE
        clear hvar hS hst
        by_cases hk0 : k = 0
        · subst hk0
          have HS1 := Lib.hid (ldR_first hvS)
          have q0 : (((0 : Nat) : Int) == 0) = true := rfl
          have HZS : Hid (zs (ldL b 1) = zs (ldL b 0) ++ [.int .i64 (zagI (v : Int))]) := Lib.hid (zs_ldL (by rw [HS1.out]))
          clear hvS
          go_wp2_with fail
          refine HVR.out.mono ?_
          rintro e w4 ⟨rfl, hS4, hG4⟩
          have hown4 := own_before hown hG4 (fun r hr => by injection hr with hr; omega)
          have hb4 := hbw.grown hG4 (by omega) (fun j hj => by injection hj with hj; omega)
          have hz4 : g + 1 ≤ w4.heap.size := Nat.le_trans hsz hG4.size
          clear hown hbw hG4 hcE hsz
          go_wp2_with fail
          refine (refZag_any v w4 hvl).mono ?_
          rintro e w' ⟨rfl, rfl⟩
          go_wp2_with (at_builtin
                       refine wpList_append_any _ rfl (.tmp 56) (.tmp 59) _ rfl (g + 1) 2 i1 _ 1 8 Tryz.underlying24 hi1 hy0 hy1 hy2 rfl (by omega) u8 0 (zs (ldL b 0)) rfl
                         (hown4.alloc _) (w4.heap.size + 1) (some ⟨w4.heap.size, 0, none⟩) 1 1 [.int .i64 (zagI (v : Int))] rfl (Reads.new w4 _ _) (one_int _ _) (by unfold maxLen; omega) (by omega) (by simp; omega) ?_
                       intro v5 w5 hown5 hg5 hat5)
          go_round
          case rel =>
            refine ⟨1, by omega, by go_num, ?_, ?_, below_app hb4 (own_base hown4 (by omega)) (by omega) hg5, by have := hg5.size; simp at this; omega⟩
            · rw [HZS.out]; exact hown5
            · rw [HS1.out]
              exact (hS4.alloc _).grown hg5 (fun q hq => by have := (hown4.lt q hq).1; omega)
          case measure => simp [intOf]; omega
        · obtain ⟨j, hj⟩ : ∃ j, k = j + 1 := ⟨k - 1, by omega⟩
          have HS1 := Lib.hid (ldR_more hk0 hvS)
          have q0 : ((k : Int) == 0) = false := by simp; omega
          have hk1 : (k : Int) - 1 = (j : Int) := by omega
          have hk2 : IntKind.i64.wrap (j : Int) = (j : Int) := IntWalk.i64_in _ (by omega)
          have hjk : j < k := by omega
          obtain ⟨p, hp⟩ : ∃ p, p = (ldS b k).2 := ⟨_, rfl⟩
          have hpj : (zs (ldL b k))[j]? = some (.int .i64 p) := zs_get (by rw [ldL_at b k j hjk, hp, hj])
          rw [← hp] at HS1
          obtain ⟨z, hz⟩ : ∃ z, z = wrap64 (p + v + 1) := ⟨_, rfl⟩
          have hzw : wrap64 (IntKind.u64.wrap (IntKind.u64.wrap (IntKind.u64.wrap p + (v : Int)) + 1)) = z := by rw [hz, step_eq2]
          rw [← hz] at HS1
          have HZS : Hid (zs (ldL b (k + 1)) = zs (ldL b k) ++ [.int .i64 z]) := Lib.hid (zs_ldL (by rw [HS1.out]))
          clear hvS hj hp hk0 hz
          go_wp2_with fail
          refine HVR.out.mono ?_
          rintro e w4 ⟨rfl, hS4, hG4⟩
          have hown4 := own_before hown hG4 (fun r hr => by injection hr with hr; omega)
          have hb4 := hbw.grown hG4 (by omega) (fun j hj => by injection hj with hj; omega)
          have hz4 : g + 1 ≤ w4.heap.size := Nat.le_trans hsz hG4.size
          obtain ⟨A8, c8, hv8, _, _, r8⟩ := own_slice hown4
          subst hv8
          obtain ⟨ad, u, rfl, _, hu, hcp⟩ := r8.at_ hjk
          have hu' : u = .int .i64 p := by rw [hpj] at hu; exact (Option.some.inj hu).symm
          subst hu'
          clear hown hbw hG4 hcE hsz hu hpj r8
          cases x2 with
          | some y2 =>
            have hs1 : (ldS b (k + 1)).1 = (a2, some y2) := by
              rw [HS1.out]
              simp only
              split <;> rfl
            have hyn := HOK.out (k + 1) y2 (by rw [hs1])
            have HSS := Lib.hid hs1
            obtain ⟨y1, hye⟩ : ∃ r, r = y2.1 := ⟨_, rfl⟩
            rw [← hye] at hyn
            have hc4 : w4.cell? ⟨g, 2, none⟩ = some (.int .i64 y1) := by rw [hS4.cellE, hye]; rfl
            have q2 : (y1 == 0) = false := by simp [hyn]
            clear hs1 hye hyn HS1
            go_wp2_with (at_builtin
                         refine wpList_append_any _ rfl (.tmp 85) (.tmp 87) _ rfl (g + 1) 2 i1 _ 1 8 Tryz.underlying24 hi1 hy0 hy1 hy2 rfl (by omega) (.slice (some ad) k c8) k (zs (ldL b k)) rfl
                           (hown4.alloc _) (w4.heap.size + 1) (some ⟨w4.heap.size, 0, none⟩) 1 1 [.int .i64 z] rfl (Reads.new w4 _ _) (one_int _ _) (by unfold maxLen; omega) (by omega) (by simp; omega) ?_
                         intro v5 w5 hown5 hg5 hat5)
            go_round
            case rel =>
              refine ⟨k + 1, by omega, by go_num, ?_, ?_, below_app hb4 (own_base hown4 (by omega)) (by omega) hg5, by have := hg5.size; simp at this; omega⟩
              · rw [HZS.out]; exact hown5
              · rw [HSS.out]
                exact (hS4.alloc _).grown hg5 (fun q hq => by have := (hown4.lt q hq).1; omega)
            case measure => simp [intOf]; omega
          | none =>
            have hc4 : w4.cell? ⟨g, 2, none⟩ = some (.int .i64 0) := hS4.cellE
            have q2 : ((0 : Int) == 0) = true := rfl
            by_cases hzp : z ≤ p
            · have hs1 : (ldS b (k + 1)).1.2 = some (4, a2) := by
                rw [HS1.out]
                simp only
                rw [if_pos hzp]; rfl
              have HR := Lib.hid (HLS.out (k + 1) _ hlt hs1)
              clear hs1 HS1 hown4 hS4 HZS
              go_wp2_with fail
              go_ret2
              rw [HR.out, HGE.out (by rw [HR.out]; decide)]
              exact ⟨.slice none 0 0, rfl, own_nil _ _ _ _, HGW.out ▸ hb4⟩
            · have HSS : Hid ((ldS b (k + 1)).1 = (a2, none)) := Lib.hid (by rw [HS1.out]; simp only; rw [if_neg hzp])
              clear HS1
              go_wp2_with (at_builtin
                           refine wpList_append_any _ rfl (.tmp 85) (.tmp 87) _ rfl (g + 1) 2 i1 _ 1 8 Tryz.underlying24 hi1 hy0 hy1 hy2 rfl (by omega) (.slice (some ad) k c8) k (zs (ldL b k)) rfl
                             (hown4.alloc _) (w4.heap.size + 1) (some ⟨w4.heap.size, 0, none⟩) 1 1 [.int .i64 z] rfl (Reads.new w4 _ _) (one_int _ _) (by unfold maxLen; omega) (by omega) (by simp; omega) ?_
                           intro v5 w5 hown5 hg5 hat5)
              go_round
              case rel =>
                refine ⟨k + 1, by omega, by go_num, ?_, ?_, below_app hb4 (own_base hown4 (by omega)) (by omega) hg5, by have := hg5.size; simp at this; omega⟩
                · rw [HZS.out]; exact hown5
                · rw [HSS.out]
                  exact (hS4.alloc _).grown hg5 (fun q hq => by have := (hown4.lt q hq).1; omega)
              case measure => simp [intOf]; omega
      · obtain rfl : k = cc := by omega
        obtain ⟨p1, p2, p3⟩ := HPL.out k hst
        have HR := Lib.hid (HRE.out hst)
        have HG := Lib.hid (HRG.out hst)
        have HRX := Lib.hid (HRI.out hst)
        rw [p1] at hS
        simp only at hS
        obtain ⟨a1, ha1⟩ : ∃ a, a = (vst b (k + 1)).1 := ⟨_, rfl⟩
        rw [← ha1] at hS p3 HR HG
        obtain ⟨X, hX⟩ : ∃ X, X = ldL b k := ⟨_, rfl⟩
        have hXl : X.length = k := by rw [hX, ldL_length]
        rw [← hX] at hown HRX HG
        have HXL := Lib.hid hXl
        rw [E1.out] at p3
        obtain ⟨A8, c8, hv8, hc8, _, _⟩ := own_slice hown
        subst hv8
        clear p1 p2 ha1 hX hst HPL HRE HRG HRI HLS hXl
        go_wp2_with fail
        refine (rfix_is 1 hS).mono ?_
        rintro e w5 ⟨rfl, hS5, hG5⟩
        have hown5 := own_before hown hG5 (fun r hr => by injection hr with hr; omega)
        have hb5 := hbw.grown hG5 (by omega) (fun j hj => by injection hj with hj; omega)
        have hz5 : g + 1 ≤ w5.heap.size := Nat.le_trans hsz hG5.size
        clear hS hG5 hown hbw hsz
        cases hat : b[a1]? with
        | none =>
          have hae : a1 = b.length := by have := List.getElem?_eq_none_iff.1 hat; have := E1.out; omega
          have HR2 : Hid (R = 2) := Lib.hid (by rw [HR.out]; unfold rpE; rw [hat])
          rw [fix1_short b a1 hae] at hS5 ⊢
          have hc5 : w5.cell? ⟨g, 2, none⟩ = some (.int .i64 2) := hS5.cellE
          clear hat hae hS5 hown5
          go_wp2_with fail
          go_quiet (fail)
          go_wp2_with fail
          go_ret2
          rw [HR2.out, HGE.out (by rw [HR2.out]; decide)]
          exact ⟨.slice none 0 0, rfl, own_nil _ _ _ _, (Drawn.one _ _).below (HGW.out ▸ hb5)⟩
        | some v =>
          rw [fix1_byte b a1 v hat] at hS5 ⊢
          have hv256 := HB.out v (List.mem_of_getElem? hat)
          have hal : a1 + 1 ≤ n := by have := (List.getElem?_eq_some_iff.1 hat).1; have := E1.out; omega
          have hRv : R = if v = blen (k - 1) then (if unpackE (b.drop (a1 + 1)) (N : Int) (v : Int) = 0 then (whE (unpackS (b.drop (a1 + 1)) (N : Int) (v : Int)) k : Int) else (unpackE (b.drop (a1 + 1)) (N : Int) (v : Int) : Int)) else 4 := by
            rw [HR.out]; unfold rpE; rw [hat]
          have hc5 : w5.cell? ⟨g, 2, none⟩ = some (.int .i64 0) := hS5.cellE
          have hc51 : w5.cell? ⟨g, 1, none⟩ = some (.int .i64 ((a1 : Int) + 1)) := by have := hS5.cell1; simpa using this
          obtain ⟨K, hK⟩ : ∃ K, K = blen (k - 1) := ⟨_, rfl⟩
          have hwd := refWidthD_any k w5 (by omega)
          rw [← hK] at hRv hwd HG
          have HWD := Lib.hid hwd
          clear hwd HR hat hS5
          by_cases hvK : v = K
          · rw [if_pos hvK] at hRv
            subst hvK
            have q2 : ((v : Int) != (v : Int)) = false := by simp
            obtain ⟨t, ht⟩ : ∃ t, t = b.drop (a1 + 1) := ⟨_, rfl⟩
            obtain ⟨a2, ha2⟩ : ∃ a2, a2 = a1 + 1 := ⟨_, rfl⟩
            have hcut : Reads w5 w5.heap.size 1 (if c = a2 then A else Option.map (fun x => x.add a2) A) (n - a2) (bs t) := by
              have hb5w : Below w.heap.size w w5 := HGW.out ▸ hb5
              have h1 := ((hr.below hb5w).more hb5w.size).cut (k := a2) (cap := c) (by omega) hnc
              simp only [Nat.mul_one] at h1
              rwa [bs_drop, ha2, ← ht, ← ha2] at h1
            have htb : ∀ x ∈ t, x < 256 := fun x hx => HB.out x (List.mem_of_mem_drop (by rw [← ht]; exact hx))
            rw [← ht] at hRv HG
            have hc52 : w5.cell? ⟨g, 1, none⟩ = some (.int .i64 (a2 : Int)) := by rw [hc51, ha2]; rfl
            have ha2n : a2 ≤ n := by omega
            have ha2c : a2 ≤ c := by omega
            obtain ⟨P, hP⟩ : ∃ P, (if c = a2 then A else Option.map (fun x => x.add a2) A) = P := ⟨_, rfl⟩
            rw [hP] at hcut
            have hcall := refUnpack_any P (n - a2) (c - a2) t (N : Int) (v : Int) w5 hcut htb (by omega) (by omega) (by omega)
            have hLl := unpackS_all t (N : Int) (v : Int)
            obtain ⟨L, hLd⟩ : ∃ L, L = unpackS t (N : Int) (v : Int) := ⟨_, rfl⟩
            obtain ⟨E, hEd⟩ : ∃ E, E = unpackE t (N : Int) (v : Int) := ⟨_, rfl⟩
            rw [← hLd] at hcall hLl hRv HG
            rw [← hEd] at hcall hRv HG
            obtain ⟨hL64, hLn⟩ := hLl
            have HC := Lib.hid hcall; have HRv := Lib.hid hRv; have HLV := Lib.hid hL64
            clear hcall hRv hL64 hLd hEd hcut htb hc51 ht ha2 hal hK
            go_wp2_with fail
            refine HWD.out.mono ?_
            rintro e w' ⟨rfl, rfl⟩
            go_wp2_with fail
            refine HC.out.mono ?_
            rintro e w6 ⟨v6, rfl, hown6, hb6⟩
            obtain ⟨A6, c6, rfl, _, _, r6⟩ := own_slice hown6
            have hb06 : Below g w w6 := hb5.trans (hb6.mono (by omega))
            have hown56 := own_below hown5 hb6
            have r8 := Reads.of_own hown56
            have hz6 : g + 1 ≤ w6.heap.size := Nat.le_trans hz5 hb6.size
            clear hown5 hb6 hown6 HC hP hc5 hc52 hown56
            by_cases hE0 : E = 0
            · have HRw : Hid (R = (whE L k : Int)) := Lib.hid (by rw [HRv.out, if_pos hE0])
              subst hE0
              have hkw : IntKind.u64.wrap (k : Int) = (k : Int) := IntWalk.u64_in _ (by omega)
              clear HRv
              go_wp2_with fail
              obtain ⟨B, hB⟩ : ∃ B, B = w6.heap.size := ⟨_, rfl⟩
              have HR6 := Lib.hid (fun (W : World) (h : Below B w6 W) => (r6.below (by rw [← hB]; exact h)))
              have HR8 := Lib.hid (fun (W : World) (h : Below B w6 W) => (r8.below (by rw [← hB]; exact h)))
              have HBW := Lib.hid (fun (W : World) (h : Below B w6 W) => (show Below g w W from hb06.trans (h.mono (by omega))))
              have hgB : g + 1 ≤ B := by omega
              have hB6 : B ≤ w6.heap.size := by omega
              have hbB : Below B w6 w6 := Below.refl _ _
              clear hB r6 r8 hb06 hz6 hb5 hz5
              go_loopw [15, 16] (fun s15 s16 wy => ∃ i : Nat, i ≤ L.length ∧ s16 = .int .i64 (i : Int) ∧ wy.ownsRow B 2 1 s15 i (zs (atL X (L.take i))) ∧ Below B w6 wy ∧ B ≤ wy.heap.size ∧ Hid (∀ a ∈ L.take i, a < k)) (fun _ i _ => L.length - (intOf i).toNat)
              case atStart => exact ⟨0, Nat.zero_le _, rfl, own_nil _ _ _ _, hbB, hB6, Lib.hid (by simp)⟩
              case round =>
                clear hbB hB6
                obtain ⟨i, hi, rfl, hown, hbr, hBr, hall⟩ := hrel
                by_cases hlt2 : i < L.length
                · obtain ⟨ad6, u6, rfl, _, hu6, hca⟩ := (HR6.out _ hbr).at_ hlt2
                  obtain ⟨a, ha, rfl⟩ := us_at hu6
                  by_cases hka : k ≤ a
                  · have HR5 : Hid (R = 5) := Lib.hid (by rw [HRw.out, whE_out ha hka]; rfl)
                    have hb0 := HBW.out _ hbr
                    clear hu6 ha hown
                    go_wp2_with fail
                    go_ret2
                    rw [HR5.out, HGE.out (by rw [HR5.out]; decide)]
                    exact ⟨.slice none 0 0, rfl, own_nil _ _ _ _, HGW.out ▸ hb0⟩
                  · have hak : a < k := by omega
                    obtain ⟨ad8, u8', rfl, _, hu8, hcx⟩ := (HR8.out _ hbr).at_ hak
                    obtain ⟨z, hz, rfl⟩ := zs_at hu8
                    have HS := Lib.hid (atL_step ha hz)
                    have HALL : Hid (∀ x ∈ L.take (i + 1), x < k) := Lib.hid fun x hx => by
                      rw [take_snoc ha] at hx
                      rcases List.mem_append.1 hx with h | h
                      · exact hall.out x h
                      · rw [List.mem_singleton] at h; omega
                    have hiN : i ≤ 65536 := by omega
                    clear hu6 ha hu8 hz
                    go_wp2_with (at_builtin
                                 refine wpList_append_any _ rfl (.tmp 135) (.tmp 143) _ rfl B 2 i1 _ 1 8 Tryz.underlying24 hi1 hy0 hy1 hy2 rfl (by omega) u15 i (zs (atL X (L.take i))) rfl
                                   (hown.alloc _) (wr.heap.size + 1) (some ⟨wr.heap.size, 0, none⟩) 1 1 [.int .i64 z] rfl (Reads.new wr _ _) (one_int _ _) (by unfold maxLen; omega) (by omega) (by simp; omega) ?_
                                 intro v9 w9 hown9 hg9 hat9)
                    go_round
                    case rel =>
                      refine ⟨i + 1, by omega, by go_num, ?_, below_app hbr hown hBr hg9, by have := hg9.size; simp at this; omega, HALL⟩
                      rw [HS.out, ← zs_snoc]
                      exact hown9
                    case measure => simp [intOf]; omega
                · obtain rfl : i = L.length := by omega
                  rw [List.take_of_length_le (Nat.le_refl _)] at hown hall
                  have hcov := cover_iff HRX.out HXL.out hall.out
                  obtain ⟨A15, c15, hv15, _, _, r15⟩ := own_slice hown
                  subst hv15
                  have hb0 := HBW.out _ hbr
                  have hls := refList_any A15 L.length c15 (atL X L) wr r15 hLn
                  obtain ⟨M, hM⟩ : ∃ M, M = (lstD (atL X L)).length := ⟨_, rfl⟩
                  rw [← hM] at hls hcov
                  have hMl : M ≤ 65536 := by have := lstD_length (atL X L); rw [atL_length] at this; omega
                  have HLS := Lib.hid hls; have HCV := Lib.hid hcov; have HRw2 := HRw
                  clear hls hcov hM hall hi hlt2
                  go_wp2_with fail
                  refine HLS.out.mono ?_
                  rintro e w7 ⟨v7, rfl, hown7, hb7⟩
                  obtain ⟨A7, c7, hv7, _, _, _⟩ := own_slice hown7
                  subst hv7
                  have hownZ := own_below hown hb7
                  have hb07 : Below g w w7 := hb0.trans (hb7.mono (by have := hb0.size; have := HGW.out; omega))
                  clear hown hown7 hb7 hb0 HLS
                  by_cases hMk : M = k
                  · have q3 : ((M : Int) != (k : Int)) = false := by simp; omega
                    have hw0 : whE L k = 0 := by
                      rcases HCV.out with ⟨h1, _⟩ | ⟨_, h2⟩
                      · exact h1
                      · exact absurd hMk h2
                    have HR0 : Hid (R = 0) := Lib.hid (by rw [HRw.out, hw0]; rfl)
                    have HGG : Hid (dcG b (N : Int) = atL X L) := Lib.hid (HG.out HR0.out).2.2.2
                    clear hw0 hMk HG
                    go_wp2_with fail
                    go_ret2
                    rw [HR0.out, HGG.out]
                    exact ⟨_, rfl, by rw [atL_length]; exact own_base hownZ (by have := HGW.out; omega), HGW.out ▸ hb07⟩
                  · have q3 : ((M : Int) != (k : Int)) = true := by simp; omega
                    have hw4 : whE L k = 4 := by
                      rcases HCV.out with ⟨_, h2⟩ | ⟨h1, _⟩
                      · exact absurd h2 hMk
                      · exact h1
                    have HR4 : Hid (R = 4) := Lib.hid (by rw [HRw.out, hw4]; rfl)
                    clear hw4 hMk HG hownZ
                    go_wp2_with fail
                    go_ret2
                    rw [HR4.out, HGE.out (by rw [HR4.out]; decide)]
                    exact ⟨.slice none 0 0, rfl, own_nil _ _ _ _, HGW.out ▸ hb07⟩
            · have HRE : Hid (R = (E : Int)) := Lib.hid (by rw [HRv.out, if_neg hE0])
              have q3 : ((E : Int) != 0) = true := by simp; omega
              have HE0 := Lib.hid hE0
              clear hE0 HRv r6 r8
              go_wp2_with fail
              go_ret2
              have hne : R ≠ 0 := by rw [HRE.out]; have := HE0.out; omega
              rw [HGE.out hne, HRE.out]
              exact ⟨.slice none 0 0, rfl, own_nil _ _ _ _, HGW.out ▸ hb06⟩
          · rw [if_neg hvK] at hRv
            have q2 : ((v : Int) != (K : Int)) = true := by simp; omega
            have HR4 := Lib.hid hRv
            clear hRv hvK hown5
            go_wp2_with fail
            refine HWD.out.mono ?_
            rintro e w' ⟨rfl, rfl⟩
            go_wp2_with fail
            go_ret2
            rw [HR4.out, HGE.out (by rw [HR4.out]; decide)]
            exact ⟨.slice none 0 0, rfl, own_nil _ _ _ _, HGW.out ▸ hb5⟩
theorem refDcGet_any (A : Option Addr) (n c : Nat) (k : Int) (b : List Nat) (w : World) (hr : Reads w w.heap.size 1 A n (bs b)) (hb : ∀ x ∈ b, x < 256) (hnc : n ≤ c) (hn : n ≤ 140737488355328) :
    Calls Tryz.prog 7 #[.slice A n c, .int .i64 k] w (NewLE w (dcG b k) (dcE b k)) := by
  by_cases h : k < 0 ∨ 65536 < k
  · exact refDcGet_no A n c b k w h
  · obtain ⟨N, rfl⟩ : ∃ N : Nat, k = (N : Int) := ⟨k.toNat, by omega⟩
    cases hx : (vst b 1).2 with
    | some y => exact refDcGet_err A n c N b y w hr hb hnc hn (by omega) hx
    | none =>
      by_cases hc : N < vv b 0
      · exact refDcGet_cnt A n c N b w hr hb hnc hn (by omega) hx hc
      · exact refDcGet_more A n c N b w hr hb hnc hn (by omega) hx hc
end Go.Proofs.YtppeagjklndidaaGreatDoor
