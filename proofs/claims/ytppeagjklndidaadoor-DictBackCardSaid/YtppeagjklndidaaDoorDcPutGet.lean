/- Plain facts: what is put in the form by a list is read as it was; what is read is put as it was. -/
import Derived.Test.YtppeagjklndidaaDoorDcRead2
namespace Go.Proofs.YtppeagjklndidaaDoor
open Go.RowKit
set_option linter.unusedVariables false
set_option linter.unusedSimpArgs false
set_option maxRecDepth 100000

theorem zag_inj {a b : Nat} (h : zagI (a : Int) = zagI (b : Int)) : a = b := by rw [← zg_zagI a, h, zg_zagI]
/-- Short numbers that are put are read as they were, whatever stands behind them. -/
theorem vv_vbs (ns : List Nat) (rest : List Nat) (h : ∀ a ∈ ns, a < 18446744073709551616) : (∀ k, k ≤ ns.length → vst (vbs ns ++ rest) k = ((vbs (ns.take k)).length, none)) ∧ ∀ k, k < ns.length → ns[k]? = some (vv (vbs ns ++ rest) k) := by
  obtain ⟨zl, hzl⟩ : ∃ zl : List Int, zl = ns.map fun v : Nat => zagI (v : Int) := ⟨_, rfl⟩
  have hz : ∀ z ∈ zl, In64 z := by
    intro z hz
    rw [hzl] at hz
    obtain ⟨v, hv, rfl⟩ := List.mem_map.1 hz
    exact zagI_in (h v hv)
  have hp : vbs ns = pl zl := by rw [vbs_pl, hzl]
  have hlen : zl.length = ns.length := by rw [hzl, List.length_map]
  rw [hp]
  refine ⟨fun k hk => ?_, fun k hk => ?_⟩
  · rw [(vst_put zl rest hz k (by omega)).1]
    congr 2
    rw [vbs_pl, List.map_take, ← hzl]
  · have h1 := (vst_put zl rest hz ns.length (by omega)).2
    have h2 := getL_at (pl zl ++ rest) ns.length k hk
    rw [h1, List.take_of_length_le (by omega), hzl, List.getElem?_map] at h2
    cases hv : ns[k]? with
    | none => rw [hv] at h2; simp at h2
    | some v =>
      rw [hv] at h2
      simp only [Option.map_some] at h2
      injection h2 with h2
      rw [hzl]
      congr 1
      rw [← hzl]
      rw [← hzl] at h2
      exact zag_inj h2
theorem hnD_lt (L : List Int) (h : ∀ z ∈ L, In64 z) (hn : L.length ≤ 65536) : ∀ a ∈ hnD L, a < 18446744073709551616 := by
  intro a ha
  rcases List.mem_cons.1 ha with rfl | ha
  · omega
  · exact htD_lt L h a ha
/-- The list is read as it was, whatever stands behind it. -/
theorem ld_put (L : List Int) (rest : List Nat) (hr : Rise L) (hl : ∀ z ∈ L, In64 z) (hn : L.length ≤ 65536) :
    vv (hdD L ++ rest) 0 = L.length ∧ (vst (hdD L ++ rest) (L.length + 1)) = ((hdD L).length, none) ∧ (ldS (hdD L ++ rest) L.length).1.2 = none ∧ ldL (hdD L ++ rest) L.length = L ∧ (vst (hdD L ++ rest) 1).2 = none := by
  obtain ⟨b, hb⟩ : ∃ b, b = hdD L ++ rest := ⟨_, rfl⟩
  have hnl : (hnD L).length = L.length + 1 := by simp [hnD, htD_length]
  obtain ⟨h1, h2⟩ := vv_vbs (hnD L) rest (hnD_lt L hl hn)
  have hbe : vbs (hnD L) ++ rest = b := by rw [hb]; rfl
  rw [hbe] at h1 h2
  rw [← hb]
  have h0 : vv b 0 = L.length := by
    have := h2 0 (by omega)
    simp [hnD] at this
    omega
  have hv : ∀ k, k < L.length → (htD L)[k]? = some (vv b (k + 1)) := fun k hk => by
    have := h2 (k + 1) (by omega)
    simpa [hnD] using this
  have hns : ∀ k, k ≤ L.length + 1 → (vst b k).2 = none := fun k hk => by rw [h1 k (by omega)]
  have key : ∀ k, k ≤ L.length → (ldS b k).1 = vst b (k + 1) ∧ ∀ j, k = j + 1 → L[j]? = some (ldS b k).2 := by
    intro k
    induction k with
    | zero => intro _; exact ⟨rfl, fun j h => absurd h (by omega)⟩
    | succ k ih =>
      intro hk
      obtain ⟨i1, i2⟩ := ih (by omega)
      have hz : L[k]? = some L[k] := List.getElem?_eq_getElem (by omega)
      have hzin := hl _ (List.getElem_mem (show k < L.length by omega))
      have hvk := hv k (by omega)
      by_cases hk0 : k = 0
      · subst hk0
        rw [htD_zero hz] at hvk
        injection hvk with hvk
        refine ⟨rfl, fun j hj => ?_⟩
        obtain rfl : j = 0 := by omega
        rw [hz]
        congr 1
        show L[0] = zagI (vv b 1 : Int)
        rw [← hvk, zagI_zg hzin]
      · obtain ⟨j, hj⟩ : ∃ j, k = j + 1 := ⟨k - 1, by omega⟩
        subst hj
        have hp := i2 j rfl
        have hpin := hl _ (List.mem_of_getElem? hp)
        rw [htD_succ hp hz] at hvk
        injection hvk with hvk
        have hlt : (ldS b (j + 1)).2 < L[j + 1] := by
          have h3 := List.pairwise_iff_getElem.1 hr
          obtain ⟨a1, a2⟩ := List.getElem?_eq_some_iff.1 hp
          have := h3 j (j + 1) a1 (by omega) (by omega)
          omega
        have hvk2 : (L[j + 1] - (ldS b (j + 1)).2 - 1).toNat = vv b (j + 2) := hvk
        have hzz : wrap64 ((ldS b (j + 1)).2 + vv b (j + 2) + 1) = L[j + 1] := by
          rw [show (ldS b (j + 1)).2 + (vv b (j + 2) : Int) + 1 = L[j + 1] by omega, wr64_id hzin]
        have hld : ldS b (j + 2) = (vst b (j + 3), L[j + 1]) := by
          conv => lhs; unfold ldS
          simp only
          rw [if_neg (by omega), i1]
          show (if wrap64 ((ldS b (j + 1)).2 + vv b (j + 2) + 1) ≤ (ldS b (j + 1)).2 then _ else _, wrap64 ((ldS b (j + 1)).2 + vv b (j + 2) + 1)) = _
          rw [hzz, if_neg (by omega)]
          rfl
        refine ⟨by rw [hld], fun i hi => ?_⟩
        obtain rfl : i = j + 1 := by omega
        rw [hld]; exact hz
  refine ⟨h0, ?_, ?_, ?_, hns 1 (by omega)⟩
  · rw [h1 _ (by omega), List.take_of_length_le (by omega)]; rfl
  · rw [(key L.length (Nat.le_refl _)).1]; exact hns _ (Nat.le_refl _)
  · apply List.ext_getElem?
    intro k
    by_cases hk : k < L.length
    · rw [ldL_at b _ k hk, (key (k + 1) (by omega)).2 k rfl]
    · rw [List.getElem?_eq_none (by rw [ldL_length]; omega), List.getElem?_eq_none (by omega)]
theorem dc_get (l : List Int) (hl : ∀ z ∈ l, In64 z) (hn : l.length ≤ 65536) : dcE (dc l) (l.length : Int) = 0 ∧ dcG (dc l) (l.length : Int) = l := by
  have hb := dc_byte l hn hl
  have hLl := lstD_length l
  obtain ⟨P, hP⟩ : ∃ P, P = plcD l := ⟨_, rfl⟩
  obtain ⟨K, hK⟩ : ∃ K, K = wd P := ⟨_, rfl⟩
  have hPl : P.length = l.length := by rw [hP, plcD_length]
  have hd : dc l = hdD (lstD l) ++ (K :: packB K P) := by unfold dc; rw [hK, hP, List.append_assoc]; rfl
  have hKc : blen ((lstD l).length - 1) = K := by rw [hK, hP, wd_plcD]
  have hK16 : K ≤ 16 := by rw [hK, hP]; exact wd_plcD_le l hn
  obtain ⟨g0, g1, g2, g3, g4⟩ := ld_put (lstD l) (K :: packB K P) (lstD_rise l) (lstD_in hl) (by omega)
  rw [← hd] at g0 g1 g2 g3 g4
  have hc : ¬ l.length < vv (dc l) 0 := by rw [g0]; omega
  have hat : (dc l)[(hdD (lstD l)).length]? = some K := by rw [hd]; simp
  have hdrop : (dc l).drop ((hdD (lstD l)).length + 1) = packB K P := by rw [hd]; simp
  obtain ⟨h3, h4⟩ := unpackE_pack P K (by omega) (by omega) (by rw [hK]; exact Nat.le_refl _)
  rw [hPl] at h3 h4
  have hw : whE P (lstD l).length = 0 := whE_of (by rw [hP]; exact plcD_lt l) (by rw [hP]; exact plcD_all l)
  have hE : dcE (dc l) (l.length : Int) = 0 := by
    rw [dcE_rest hb hn hc (by rw [g0]; exact g2), g0, g1]
    unfold rpE
    rw [hat]
    simp only
    rw [if_pos hKc.symm, hdrop, h3, if_pos rfl, h4, hw]
    rfl
  refine ⟨hE, ?_⟩
  obtain ⟨_, _, _, hG⟩ := dcG_rest hb hn hc (by rw [g0]; exact g2) hE
  rw [hG, g0, g1, g3, hKc, hdrop, h4, hP]
  unfold plcD
  rw [List.map_map]
  conv => rhs; rw [← List.map_id l]
  refine List.map_congr_left fun z hz => ?_
  show ((lstD l)[posD (lstD l) z]?).getD 0 = z
  rw [posD_at ((lstD_mem l z).2 hz)]
  rfl
/-- What is read is put as it was. -/
theorem get_dc (b : List Nat) (hb : ∀ x ∈ b, x < 256) (k : Int) (h : dcE b k = 0) : 0 ≤ k ∧ k ≤ 65536 ∧ dc (dcG b k) = b ∧ (dcG b k).length = k.toNat ∧ ∀ z ∈ dcG b k, In64 z := by
  have hk : 0 ≤ k ∧ k ≤ 65536 := by
    by_cases hk : k < 0 ∨ 65536 < k
    · rw [(dcE_bad hk).1] at h; omega
    · omega
  obtain ⟨N, rfl⟩ : ∃ N : Nat, k = (N : Int) := ⟨k.toNat, by omega⟩
  have hN : N ≤ 65536 := by omega
  obtain ⟨z1, z2, z3⟩ := dcE_zero hN h
  obtain ⟨h1, h2, h3, hG⟩ := dcG_rest hb hN z2 z3 h
  have hri := ldL_rise hb _ z3
  have hin := ldL_in hb (vv b 0)
  have hhd := ldL_head hb _ z3
  obtain ⟨c, hc⟩ : ∃ c, c = vv b 0 := ⟨_, rfl⟩
  rw [← hc] at h1 h2 h3 hG hri hin hhd z2 z3
  obtain ⟨L, hL⟩ : ∃ L, L = ldL b c := ⟨_, rfl⟩
  have hLc : L.length = c := by rw [hL, ldL_length]
  rw [← hL] at hG hri hin hhd
  obtain ⟨at_, hat⟩ : ∃ a, a = (vst b (c + 1)).1 := ⟨_, rfl⟩
  rw [← hat] at h1 h2 h3 hG
  obtain ⟨p1, p2, p3, p4, _⟩ := pack_again (b.drop (at_ + 1)) (N : Int) (blen (c - 1) : Int) (fun x hx => hb x (List.mem_of_mem_drop hx)) h2
  obtain ⟨P, hP⟩ : ∃ P, P = unpackS (b.drop (at_ + 1)) (N : Int) (blen (c - 1) : Int) := ⟨_, rfl⟩
  rw [← hP] at h3 hG p1 p2 p3 p4
  obtain ⟨w1, w2⟩ := whE_zero h3
  have hget : ∀ a, a < c → ∃ z, L[a]? = some z ∧ (L[a]?).getD 0 = z := fun a ha => by
    have : L[a]? = some L[a] := List.getElem?_eq_getElem (by omega)
    exact ⟨_, this, by rw [this]; rfl⟩
  obtain ⟨G, hGe⟩ : ∃ G, G = P.map (fun a => (L[a]?).getD 0) := ⟨_, rfl⟩
  rw [← hGe] at hG
  have hls : lstD G = L := by
    refine rise_ext _ _ (lstD_rise G) hri fun x => ?_
    rw [lstD_mem, hGe, List.mem_map]
    constructor
    · rintro ⟨a, ha, rfl⟩
      obtain ⟨z, e1, e2⟩ := hget a (w1 a ha)
      rw [e2]; exact List.mem_of_getElem? e1
    · intro hx
      obtain ⟨i, hi, rfl⟩ := List.mem_iff_getElem.1 hx
      refine ⟨i, w2 i (by omega), ?_⟩
      rw [List.getElem?_eq_getElem hi]; rfl
  have hpl : plcD G = P := by
    unfold plcD
    rw [hls, hGe, List.map_map]
    conv => rhs; rw [← List.map_id P]
    refine List.map_congr_left fun a ha => ?_
    obtain ⟨z, e1, e2⟩ := hget a (w1 a ha)
    show posD L ((L[a]?).getD 0) = a
    rw [e2]; exact posD_of hri e1
  have hwd : wd P = blen (c - 1) := by rw [← hpl, wd_plcD, hls, hLc]
  have hhn : hnD L = (List.range (c + 1)).map fun i => vv b i := by
    apply List.ext_getElem?
    intro i
    by_cases hi : i < c + 1
    · rw [List.getElem?_map, List.getElem?_range hi]
      cases i with
      | zero => simp [hnD, hLc, hc]
      | succ i =>
        have := hhd i (by omega)
        simpa [hnD] using this
    · rw [List.getElem?_eq_none (by simp [hnD, htD_length]; omega), List.getElem?_eq_none (by simp; omega)]
  have hpre := (put_prefix b hb (c + 1) (by rw [← ldS_place hb z3]; exact z3)).2
  have hhd2 : hdD L = b.take at_ := by
    unfold hdD
    rw [hhn, vbs_pl, List.map_map, hat, ← hpre]
    rfl
  have hpk : packB (blen (c - 1)) P = b.drop (at_ + 1) := by
    rw [← p2]; unfold packS; rw [if_pos p1]; rfl
  refine ⟨hk.1, hk.2, ?_, by rw [hG, hGe, List.length_map, p3], fun z hz => ?_⟩
  · rw [hG]
    unfold dc
    rw [hls, hpl, hwd, hhd2, hpk, List.append_assoc]
    obtain ⟨hl, hv⟩ := List.getElem?_eq_some_iff.1 h1
    rw [List.singleton_append, ← hv, ← List.drop_eq_getElem_cons hl, List.take_append_drop]
  · rw [hG, hGe] at hz
    obtain ⟨a, ha, rfl⟩ := List.mem_map.1 hz
    obtain ⟨z, e1, e2⟩ := hget a (w1 a ha)
    rw [e2]; exact hin z (List.mem_of_getElem? e1)
end Go.Proofs.YtppeagjklndidaaDoor
