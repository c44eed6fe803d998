/- Texts joined: DcPutGet FoPutGet CkRead. -/
import Derived.Test.YthlfplljbbnaoaaGreatDoorJ32
import Derived.Test.YthlfplljbbnaoaaGreatDoorJ34
import Derived.Test.YthlfplljbbnaoaaGreatDoorJ36
import Derived.Test.YthlfplljbbnaoaaGreatDoorJ12
import Derived.Test.YthlfplljbbnaoaaGreatDoorJ39
import Derived.Test.YthlfplljbbnaoaaGreatDoorJ37
/- Plain facts: what is put in the form by a list is read as it was; what is read is put as it was. -/
namespace Go.Proofs.YthlfplljbbnaoaaGreatDoor
open Go.RowKit
set_option linter.unusedVariables false
set_option linter.unusedSimpArgs false
set_option maxRecDepth 100000

theorem zag_inj {a b : Nat} (h : zagI (a : Int) = zagI (b : Int)) : a = b := by rw [← zg_zagI a, h, zg_zagI]
/-- Short numbers that are put are read as they were, whatever stands behind them. -/
theorem vv_vbs (ns : List Nat) (rest : List Nat) (h : ∀ a ∈ ns, a < 18446744073709551616) : (∀ k, k ≤ ns.length → vst (vbs ns ++ rest) k = ((vbs (ns.take k)).length, none)) ∧ ∀ k, k < ns.length → ns[k]? = some (vv (vbs ns ++ rest) k) := by
  obtain ⟨zl, hzl⟩ : ∃ zl : List Int, zl = ns.map fun v : Nat => zagI (v : Int) := ⟨_, rfl⟩
  have hz : ∀ z ∈ zl, In64 z := by
    intro z hz
    rw [hzl] at hz
    obtain ⟨v, hv, rfl⟩ := List.mem_map.1 hz
    exact zagI_in (h v hv)
  have hp : vbs ns = pl zl := by rw [vbs_pl, hzl]
  have hlen : zl.length = ns.length := by rw [hzl, List.length_map]
  rw [hp]
  refine ⟨fun k hk => ?_, fun k hk => ?_⟩
  · rw [(vst_put zl rest hz k (by omega)).1]
    congr 2
    rw [vbs_pl, List.map_take, ← hzl]
  · have h1 := (vst_put zl rest hz ns.length (by omega)).2
    have h2 := getL_at (pl zl ++ rest) ns.length k hk
    rw [h1, List.take_of_length_le (by omega), hzl, List.getElem?_map] at h2
    cases hv : ns[k]? with
    | none => rw [hv] at h2; simp at h2
    | some v =>
      rw [hv] at h2
      simp only [Option.map_some] at h2
      injection h2 with h2
      rw [hzl]
      congr 1
      rw [← hzl]
      rw [← hzl] at h2
      exact zag_inj h2
theorem hnD_lt (L : List Int) (h : ∀ z ∈ L, In64 z) (hn : L.length ≤ 65536) : ∀ a ∈ hnD L, a < 18446744073709551616 := by
  intro a ha
  rcases List.mem_cons.1 ha with rfl | ha
  · omega
  · exact htD_lt L h a ha
/-- The list is read as it was, whatever stands behind it. -/
theorem ld_put (L : List Int) (rest : List Nat) (hr : Rise L) (hl : ∀ z ∈ L, In64 z) (hn : L.length ≤ 65536) :
    vv (hdD L ++ rest) 0 = L.length ∧ (vst (hdD L ++ rest) (L.length + 1)) = ((hdD L).length, none) ∧ (ldS (hdD L ++ rest) L.length).1.2 = none ∧ ldL (hdD L ++ rest) L.length = L ∧ (vst (hdD L ++ rest) 1).2 = none := by
  obtain ⟨b, hb⟩ : ∃ b, b = hdD L ++ rest := ⟨_, rfl⟩
  have hnl : (hnD L).length = L.length + 1 := by simp [hnD, htD_length]
  obtain ⟨h1, h2⟩ := vv_vbs (hnD L) rest (hnD_lt L hl hn)
  have hbe : vbs (hnD L) ++ rest = b := by rw [hb]; rfl
  rw [hbe] at h1 h2
  rw [← hb]
  have h0 : vv b 0 = L.length := by
    have := h2 0 (by omega)
    simp [hnD] at this
    omega
  have hv : ∀ k, k < L.length → (htD L)[k]? = some (vv b (k + 1)) := fun k hk => by
    have := h2 (k + 1) (by omega)
    simpa [hnD] using this
  have hns : ∀ k, k ≤ L.length + 1 → (vst b k).2 = none := fun k hk => by rw [h1 k (by omega)]
  have key : ∀ k, k ≤ L.length → (ldS b k).1 = vst b (k + 1) ∧ ∀ j, k = j + 1 → L[j]? = some (ldS b k).2 := by
    intro k
    induction k with
    | zero => intro _; exact ⟨rfl, fun j h => absurd h (by omega)⟩
    | succ k ih =>
      intro hk
      obtain ⟨i1, i2⟩ := ih (by omega)
      have hz : L[k]? = some L[k] := List.getElem?_eq_getElem (by omega)
      have hzin := hl _ (List.getElem_mem (show k < L.length by omega))
      have hvk := hv k (by omega)
      by_cases hk0 : k = 0
      · subst hk0
        rw [htD_zero hz] at hvk
        injection hvk with hvk
        refine ⟨rfl, fun j hj => ?_⟩
        obtain rfl : j = 0 := by omega
        rw [hz]
        congr 1
        show L[0] = zagI (vv b 1 : Int)
        rw [← hvk, zagI_zg hzin]
      · obtain ⟨j, hj⟩ : ∃ j, k = j + 1 := ⟨k - 1, by omega⟩
        subst hj
        have hp := i2 j rfl
        have hpin := hl _ (List.mem_of_getElem? hp)
        rw [htD_succ hp hz] at hvk
        injection hvk with hvk
        have hlt : (ldS b (j + 1)).2 < L[j + 1] := by
          have h3 := List.pairwise_iff_getElem.1 hr
          obtain ⟨a1, a2⟩ := List.getElem?_eq_some_iff.1 hp
          have := h3 j (j + 1) a1 (by omega) (by omega)
          omega
        have hvk2 : (L[j + 1] - (ldS b (j + 1)).2 - 1).toNat = vv b (j + 2) := hvk
        have hzz : wrap64 ((ldS b (j + 1)).2 + vv b (j + 2) + 1) = L[j + 1] := by
          rw [show (ldS b (j + 1)).2 + (vv b (j + 2) : Int) + 1 = L[j + 1] by omega, wr64_id hzin]
        have hld : ldS b (j + 2) = (vst b (j + 3), L[j + 1]) := by
          conv => lhs; unfold ldS
          simp only
          rw [if_neg (by omega), i1]
          show (if wrap64 ((ldS b (j + 1)).2 + vv b (j + 2) + 1) ≤ (ldS b (j + 1)).2 then _ else _, wrap64 ((ldS b (j + 1)).2 + vv b (j + 2) + 1)) = _
          rw [hzz, if_neg (by omega)]
          rfl
        refine ⟨by rw [hld], fun i hi => ?_⟩
        obtain rfl : i = j + 1 := by omega
        rw [hld]; exact hz
  refine ⟨h0, ?_, ?_, ?_, hns 1 (by omega)⟩
  · rw [h1 _ (by omega), List.take_of_length_le (by omega)]; rfl
  · rw [(key L.length (Nat.le_refl _)).1]; exact hns _ (Nat.le_refl _)
  · apply List.ext_getElem?
    intro k
    by_cases hk : k < L.length
    · rw [ldL_at b _ k hk, (key (k + 1) (by omega)).2 k rfl]
    · rw [List.getElem?_eq_none (by rw [ldL_length]; omega), List.getElem?_eq_none (by omega)]
theorem dc_get (l : List Int) (hl : ∀ z ∈ l, In64 z) (hn : l.length ≤ 65536) : dcE (dc l) (l.length : Int) = 0 ∧ dcG (dc l) (l.length : Int) = l := by
  have hb := dc_byte l hn hl
  have hLl := lstD_length l
  obtain ⟨P, hP⟩ : ∃ P, P = plcD l := ⟨_, rfl⟩
  obtain ⟨K, hK⟩ : ∃ K, K = wd P := ⟨_, rfl⟩
  have hPl : P.length = l.length := by rw [hP, plcD_length]
  have hd : dc l = hdD (lstD l) ++ (K :: packB K P) := by unfold dc; rw [hK, hP, List.append_assoc]; rfl
  have hKc : blen ((lstD l).length - 1) = K := by rw [hK, hP, wd_plcD]
  have hK16 : K ≤ 16 := by rw [hK, hP]; exact wd_plcD_le l hn
  obtain ⟨g0, g1, g2, g3, g4⟩ := ld_put (lstD l) (K :: packB K P) (lstD_rise l) (lstD_in hl) (by omega)
  rw [← hd] at g0 g1 g2 g3 g4
  have hc : ¬ l.length < vv (dc l) 0 := by rw [g0]; omega
  have hat : (dc l)[(hdD (lstD l)).length]? = some K := by rw [hd]; simp
  have hdrop : (dc l).drop ((hdD (lstD l)).length + 1) = packB K P := by rw [hd]; simp
  obtain ⟨h3, h4⟩ := unpackE_pack P K (by omega) (by omega) (by rw [hK]; exact Nat.le_refl _)
  rw [hPl] at h3 h4
  have hw : whE P (lstD l).length = 0 := whE_of (by rw [hP]; exact plcD_lt l) (by rw [hP]; exact plcD_all l)
  have hE : dcE (dc l) (l.length : Int) = 0 := by
    rw [dcE_rest hb hn hc (by rw [g0]; exact g2), g0, g1]
    unfold rpE
    rw [hat]
    simp only
    rw [if_pos hKc.symm, hdrop, h3, if_pos rfl, h4, hw]
    rfl
  refine ⟨hE, ?_⟩
  obtain ⟨_, _, _, hG⟩ := dcG_rest hb hn hc (by rw [g0]; exact g2) hE
  rw [hG, g0, g1, g3, hKc, hdrop, h4, hP]
  unfold plcD
  rw [List.map_map]
  conv => rhs; rw [← List.map_id l]
  refine List.map_congr_left fun z hz => ?_
  show ((lstD l)[posD (lstD l) z]?).getD 0 = z
  rw [posD_at ((lstD_mem l z).2 hz)]
  rfl
/-- What is read is put as it was. -/
theorem get_dc (b : List Nat) (hb : ∀ x ∈ b, x < 256) (k : Int) (h : dcE b k = 0) : 0 ≤ k ∧ k ≤ 65536 ∧ dc (dcG b k) = b ∧ (dcG b k).length = k.toNat ∧ ∀ z ∈ dcG b k, In64 z := by
  have hk : 0 ≤ k ∧ k ≤ 65536 := by
    by_cases hk : k < 0 ∨ 65536 < k
    · rw [(dcE_bad hk).1] at h; omega
    · omega
  obtain ⟨N, rfl⟩ : ∃ N : Nat, k = (N : Int) := ⟨k.toNat, by omega⟩
  have hN : N ≤ 65536 := by omega
  obtain ⟨z1, z2, z3⟩ := dcE_zero hN h
  obtain ⟨h1, h2, h3, hG⟩ := dcG_rest hb hN z2 z3 h
  have hri := ldL_rise hb _ z3
  have hin := ldL_in hb (vv b 0)
  have hhd := ldL_head hb _ z3
  obtain ⟨c, hc⟩ : ∃ c, c = vv b 0 := ⟨_, rfl⟩
  rw [← hc] at h1 h2 h3 hG hri hin hhd z2 z3
  obtain ⟨L, hL⟩ : ∃ L, L = ldL b c := ⟨_, rfl⟩
  have hLc : L.length = c := by rw [hL, ldL_length]
  rw [← hL] at hG hri hin hhd
  obtain ⟨at_, hat⟩ : ∃ a, a = (vst b (c + 1)).1 := ⟨_, rfl⟩
  rw [← hat] at h1 h2 h3 hG
  obtain ⟨p1, p2, p3, p4, _⟩ := pack_again (b.drop (at_ + 1)) (N : Int) (blen (c - 1) : Int) (fun x hx => hb x (List.mem_of_mem_drop hx)) h2
  obtain ⟨P, hP⟩ : ∃ P, P = unpackS (b.drop (at_ + 1)) (N : Int) (blen (c - 1) : Int) := ⟨_, rfl⟩
  rw [← hP] at h3 hG p1 p2 p3 p4
  obtain ⟨w1, w2⟩ := whE_zero h3
  have hget : ∀ a, a < c → ∃ z, L[a]? = some z ∧ (L[a]?).getD 0 = z := fun a ha => by
    have : L[a]? = some L[a] := List.getElem?_eq_getElem (by omega)
    exact ⟨_, this, by rw [this]; rfl⟩
  obtain ⟨G, hGe⟩ : ∃ G, G = P.map (fun a => (L[a]?).getD 0) := ⟨_, rfl⟩
  rw [← hGe] at hG
  have hls : lstD G = L := by
    refine rise_ext _ _ (lstD_rise G) hri fun x => ?_
    rw [lstD_mem, hGe, List.mem_map]
    constructor
    · rintro ⟨a, ha, rfl⟩
      obtain ⟨z, e1, e2⟩ := hget a (w1 a ha)
      rw [e2]; exact List.mem_of_getElem? e1
    · intro hx
      obtain ⟨i, hi, rfl⟩ := List.mem_iff_getElem.1 hx
      refine ⟨i, w2 i (by omega), ?_⟩
      rw [List.getElem?_eq_getElem hi]; rfl
  have hpl : plcD G = P := by
    unfold plcD
    rw [hls, hGe, List.map_map]
    conv => rhs; rw [← List.map_id P]
    refine List.map_congr_left fun a ha => ?_
    obtain ⟨z, e1, e2⟩ := hget a (w1 a ha)
    show posD L ((L[a]?).getD 0) = a
    rw [e2]; exact posD_of hri e1
  have hwd : wd P = blen (c - 1) := by rw [← hpl, wd_plcD, hls, hLc]
  have hhn : hnD L = (List.range (c + 1)).map fun i => vv b i := by
    apply List.ext_getElem?
    intro i
    by_cases hi : i < c + 1
    · rw [List.getElem?_map, List.getElem?_range hi]
      cases i with
      | zero => simp [hnD, hLc, hc]
      | succ i =>
        have := hhd i (by omega)
        simpa [hnD] using this
    · rw [List.getElem?_eq_none (by simp [hnD, htD_length]; omega), List.getElem?_eq_none (by simp; omega)]
  have hpre := (put_prefix b hb (c + 1) (by rw [← ldS_place hb z3]; exact z3)).2
  have hhd2 : hdD L = b.take at_ := by
    unfold hdD
    rw [hhn, vbs_pl, List.map_map, hat, ← hpre]
    rfl
  have hpk : packB (blen (c - 1)) P = b.drop (at_ + 1) := by
    rw [← p2]; unfold packS; rw [if_pos p1]; rfl
  refine ⟨hk.1, hk.2, ?_, by rw [hG, hGe, List.length_map, p3], fun z hz => ?_⟩
  · rw [hG]
    unfold dc
    rw [hls, hpl, hwd, hhd2, hpk, List.append_assoc]
    obtain ⟨hl, hv⟩ := List.getElem?_eq_some_iff.1 h1
    rw [List.singleton_append, ← hv, ← List.drop_eq_getElem_cons hl, List.take_append_drop]
  · rw [hG, hGe] at hz
    obtain ⟨a, ha, rfl⟩ := List.mem_map.1 hz
    obtain ⟨z, e1, e2⟩ := hget a (w1 a ha)
    rw [e2]; exact hin z (List.mem_of_getElem? e1)
end Go.Proofs.YthlfplljbbnaoaaGreatDoor

/- Plain facts: what is put in the form by the least one is read as it was; what is read is put as it was. No program. -/
namespace Go.Proofs.YthlfplljbbnaoaaGreatDoor
open Go.RowKit
set_option linter.unusedVariables false
set_option linter.unusedSimpArgs false
set_option maxRecDepth 100000

theorem fo_get (l : List Int) (hl : ∀ z ∈ l, In64 z) (hn : l.length ≤ 65536) : fE (fo l) (l.length : Int) = 0 ∧ fG (fo l) (l.length : Int) = l := by
  by_cases he : l = []
  · subst he
    have h : fE (fo []) (([] : List Int).length : Int) = 0 := by rw [fo_nil]; exact fE_zero []
    exact ⟨h, fG_zero _⟩
  · have hp : 1 ≤ l.length := by
      rcases Nat.eq_zero_or_pos l.length with h | h
      · exact absurd (List.eq_nil_of_length_eq_zero h) he
      · exact h
    obtain ⟨m, hm⟩ : ∃ m, m = ls l := ⟨_, rfl⟩
    have hm64 : In64 m := by rw [hm]; exact ls_in hl
    have hD64 := dfs_lt hl hm64
    have hDl := dfs_length m l
    have hK : wd (dfs m l) ≤ 64 := by rw [hm]; exact wd_dfs hl
    have hd : fo l = vb (zg m) ++ (wd (dfs m l) :: packB (wd (dfs m l)) (dfs m l)) := by
      rw [fo_ne he]
      unfold foB
      rw [← hm]
      rfl
    have h0 : 0 ∈ dfs m l := by rw [hm]; exact dfs_zero he
    obtain ⟨h1, h2⟩ := first_read m hm64 (wd (dfs m l) :: packB (wd (dfs m l)) (dfs m l))
    rw [← hd] at h1 h2
    have hb := fo_byte hl
    have hat : (fo l)[(vb (zg m)).length]? = some (wd (dfs m l)) := by rw [hd]; simp
    have hdrop : (fo l).drop ((vb (zg m)).length + 1) = packB (wd (dfs m l)) (dfs m l) := by rw [hd]; simp
    obtain ⟨h3, h4⟩ := unpackE_pack (dfs m l) (wd (dfs m l)) (by omega) hK (Nat.le_refl _)
    rw [hDl] at h3 h4
    have hR : rbE (fo l) (vb (zg m)).length (l.length : Int) = 0 := by
      unfold rbE
      rw [hat]
      simp only
      rw [if_neg (by omega), hdrop, h3, if_pos rfl, h4, if_pos rfl]
    have hS : (rbS (fo l) (vb (zg m)).length none (l.length : Int)).1 = dfs m l := by
      obtain ⟨v, e1, _, _, _, e5⟩ := rb_take (fo l) (vb (zg m)).length (l.length : Int) hR
      rw [hat] at e1
      injection e1 with e1
      subst e1
      rw [e5, hdrop, h4]
    have hM : fM (fo l) = m := h2
    have hf : fitB m (dfs m l) = true := by
      refine fitB_iff.2 ⟨h0, fun d hd => ?_⟩
      obtain ⟨z, hz, rfl⟩ := List.mem_map.1 hd
      have := hl z hz
      unfold In64 at this hm64
      unfold roomI
      omega
    have h : fE (fo l) (l.length : Int) = 0 := by
      rw [fE_more (fo l) hb l.length ⟨hp, hn⟩ (by rw [h1]), h1, hM]
      show raE (fo l) (vb (zg m)).length (l.length : Int) m = 0
      unfold raE
      rw [if_pos hR, hS, if_pos hf]
    refine ⟨h, ?_⟩
    unfold fG
    rw [if_pos h, Int.toNat_natCast, hM]
    unfold fD
    rw [if_neg (by omega), h1]
    show ups m (rbS (fo l) (vb (zg m)).length none (l.length : Int)).1 = l
    rw [hS]
    exact ups_dfs (fun z hz => by rw [hm]; exact ls_le z hz)
/-- What is read is put as it was. -/
theorem get_fo (b : List Nat) (hb : ∀ x ∈ b, x < 256) (k : Int) (h : fE b k = 0) : 0 ≤ k ∧ k ≤ 65536 ∧ fo (fG b k) = b ∧ (fG b k).length = k.toNat ∧ ∀ z ∈ fG b k, In64 z := by
  have hk : 0 ≤ k ∧ k ≤ 65536 := by
    unfold fE at h
    by_cases hk : k < 0 ∨ 65536 < k
    · rw [if_pos hk] at h; omega
    · omega
  obtain ⟨N, rfl⟩ : ∃ N : Nat, k = (N : Int) := ⟨k.toNat, by omega⟩
  have hG : fG b (N : Int) = ups (fM b) (fD b N) := by unfold fG; rw [if_pos h, Int.toNat_natCast]
  obtain ⟨hlen, hfit⟩ := fD_ok hb (by omega) h
  have hM64 := fM_in hb
  refine ⟨hk.1, hk.2, ?_, by rw [hG, ups_length, hlen]; simp, ?_⟩
  · rcases Nat.eq_zero_or_pos N with h0 | h0
    · subst h0
      have hl : b = [] := by
        have e := fE_zero b
        rw [show ((0 : Nat) : Int) = 0 from rfl] at h
        rw [h] at e
        by_cases h1 : 0 < b.length
        · rw [if_pos h1] at e; omega
        · exact List.eq_nil_of_length_eq_zero (by omega)
      rw [hl]; rfl
    · have hx := fE_vst ⟨h0, by omega⟩ h
      have hpre := put_prefix b hb 1 hx
      have hg1 : getL b 1 = [zagI (vv b 0 : Int)] := by simp [getL]
      rw [hg1, pl_one] at hpre
      obtain ⟨hp1, hp2⟩ := hpre
      change vb (zg (fM b)) = _ at hp2
      rw [fE_more b hb N ⟨h0, by omega⟩ hx] at h
      obtain ⟨hr, hf⟩ := ra_zero h
      obtain ⟨v, e1, e2, e3, e4, e5⟩ := rb_take b (vst b 1).1 (N : Int) hr
      obtain ⟨p1, p2, p3, p4, _⟩ := pack_again (b.drop ((vst b 1).1 + 1)) (N : Int) v (fun x hx => hb x (List.mem_of_mem_drop hx)) e3
      have hD : fD b N = unpackS (b.drop ((vst b 1).1 + 1)) (N : Int) v := by
        unfold fD; rw [if_neg (by omega), hx]; exact e5
      rw [e5] at hf
      obtain ⟨L, hLd⟩ : ∃ L, L = unpackS (b.drop ((vst b 1).1 + 1)) (N : Int) v := ⟨_, rfl⟩
      rw [← hLd] at hD p1 p2 p3 p4 e4 hf
      have h00 := (fitB_iff.1 hf).1
      have hne : ups (fM b) L ≠ [] := by
        intro e
        have := ups_length (fM b) L
        rw [e, p3] at this
        simp at this
        omega
      have hps : packB v L = b.drop ((vst b 1).1 + 1) := by rw [← p2]; unfold packS; rw [if_pos p1]; rfl
      rw [hG, hD, fo_ne hne]
      unfold foB
      rw [ls_ups h00, dfs_ups, e4, hps, hp2]
      obtain ⟨hl, hv⟩ := List.getElem?_eq_some_iff.1 e1
      rw [List.singleton_append, ← hv, ← List.drop_eq_getElem_cons hl, List.take_append_drop]
  · intro z hz
    rw [hG] at hz
    obtain ⟨d, hd, rfl⟩ := List.mem_map.1 hz
    have := hfit d hd
    unfold In64 at hM64 ⊢
    unfold roomI at this
    omega
end Go.Proofs.YthlfplljbbnaoaaGreatDoor

/- Any bytes read as a chunk, told as plain bytes: its parts, the first error, the values; what is put is read as it was, and what is read is put as it was. No program; no condition. -/
namespace Go.Proofs.YthlfplljbbnaoaaGreatDoor
open Go.RowKit
set_option linter.unusedVariables false
set_option linter.unusedSimpArgs false

/-- The error of reading so many values of a way's form. -/
def wyE (way : Nat) (q : List Nat) (m : Int) : Int :=
  if way = 0 then getE q m else if way = 1 then rE q m else if way = 2 then dE q m else if way = 3 then dcE q m else if way = 4 then fE q m else txE q m
/-- The numbers that are read. -/
def wyI (way : Nat) (q : List Nat) (m : Int) : List Int :=
  if way = 0 then getS q m else if way = 1 then rS q m else if way = 2 then dG q m else if way = 3 then dcG q m else if way = 4 then fG q m else []
/-- The texts that are read. -/
def wyT (way : Nat) (q : List Nat) (m : Int) : List Tx := if way = 5 then txG q m else []
theorem ofW_ways {way : Nat} {kd : Int} (h : ofW (way : Int) kd = true) : kd = 1 ∧ (way = 0 ∨ way = 1 ∨ way = 2 ∨ way = 3 ∨ way = 4) ∨ kd = 2 ∧ way = 5 := by
  have := ofW_range h
  omega
theorem frm_byte {way : Nat} {l : List Vl} (hl : l.length ≤ 65536) (hi : ∀ v ∈ l, In64 v.2.1) (ht : ∀ v ∈ l, v.2.2.length ≤ 65536) : ∀ b ∈ frm way l, b < 256 := by
  have h1 := ints_in hi
  have h2 := ints_length_le l
  have h3 := wrds_length_le l
  have h4 := wrds_short ht
  unfold frm
  split
  · exact pl_byte _ h1
  split
  · exact rf_byte h1 (by omega)
  split
  · exact dl_byte _ h1
  split
  · exact dc_byte _ (by omega) h1
  split
  · exact fo_byte h1
  · exact txf_byte _ (by omega) h4
/-- What is put in a way is read of it as it was. -/
theorem wy_get {way : Nat} {kd : Int} {l : List Vl} (h : ofW (way : Int) kd = true) (hc : ckE kd l = 0) (hi : ∀ v ∈ l, In64 v.2.1) :
    wyE way (frm way l) ((l.length - cnt (non l) l.length : Nat) : Int) = 0 ∧ asm (non l) kd (wyI way (frm way l) ((l.length - cnt (non l) l.length : Nat) : Int)) (wyT way (frm way l) ((l.length - cnt (non l) l.length : Nat) : Int)) l.length = l := by
  obtain ⟨c1, c2, c3⟩ := ckE_ok hc
  have h1 := ints_in hi
  have h2 := ints_length_le l
  have h3 := wrds_length_le l
  have h4 := wrds_short c2
  have ha : ∀ is ts, (kd = 1 → is = ints l) → (kd = 2 → ts = wrds l) → asm (non l) kd is ts l.length = l := by
    intro is ts e1 e2
    have e := asm_of c3
    rcases ofW_ways h with ⟨rfl, _⟩ | ⟨rfl, _⟩
    · rw [e1 rfl]; exact e
    · rw [e2 rfl]; exact e
  rcases ofW_ways h with ⟨rfl, hw⟩ | ⟨rfl, rfl⟩
  · rw [← ints_all c3]
    rcases hw with rfl | rfl | rfl | rfl | rfl
    · obtain ⟨g1, g2⟩ := get_put (ints l) h1 (by omega)
      exact ⟨g1, ha _ _ (fun _ => g2) (fun e => by cases e)⟩
    · obtain ⟨g1, g2⟩ := rn_get_put h1 (by omega)
      exact ⟨g1, ha _ _ (fun _ => g2) (fun e => by cases e)⟩
    · obtain ⟨g1, g2⟩ := dl_get (ints l) h1 (by omega)
      exact ⟨g1, ha _ _ (fun _ => g2) (fun e => by cases e)⟩
    · obtain ⟨g1, g2⟩ := dc_get (ints l) h1 (by omega)
      exact ⟨g1, ha _ _ (fun _ => g2) (fun e => by cases e)⟩
    · obtain ⟨g1, g2⟩ := fo_get (ints l) h1 (by omega)
      exact ⟨g1, ha _ _ (fun _ => g2) (fun e => by cases e)⟩
  · rw [← wrds_all c3]
    obtain ⟨g1, g2⟩ := tx_get (wrds l) h4 (by omega)
    exact ⟨g1, ha _ _ (fun e => by cases e) (fun _ => g2)⟩
/-- What is read of a way's form is put in that way as it was. -/
theorem wy_back {way : Nat} {kd : Int} {q : List Nat} {m : Int} (h : ofW (way : Int) kd = true) (hb : ∀ x ∈ q, x < 256) (he : wyE way q m = 0) :
    0 ≤ m ∧ m ≤ 65536 ∧ (∀ z ∈ wyI way q m, In64 z) ∧ (∀ s ∈ wyT way q m, s.length ≤ 65536) ∧
    (kd = 1 → (wyI way q m).length = m.toNat ∧ ∀ l, ints l = wyI way q m → frm way l = q) ∧ (kd = 2 → (wyT way q m).length = m.toNat ∧ ∀ l, wrds l = wyT way q m → frm way l = q) := by
  have no : ∀ s ∈ ([] : List Tx), s.length ≤ 65536 := fun s hs => by cases hs
  have no' : ∀ s ∈ ([] : List Int), In64 s := fun s hs => by cases hs
  rcases ofW_ways h with ⟨rfl, hw⟩ | ⟨rfl, rfl⟩
  · rcases hw with rfl | rfl | rfl | rfl | rfl
    · obtain ⟨g1, g2, g3, g4, g5⟩ := put_get q hb m he
      exact ⟨g1, g2, g5, no, fun _ => ⟨g4, fun l e => by rw [show frm 0 l = pl (ints l) from rfl, e]; exact g3⟩, fun e => by cases e⟩
    · obtain ⟨g1, g2, g3, g4, g5⟩ := rn_put_get q hb m he
      exact ⟨g1, g2, g5, no, fun _ => ⟨by rw [show wyI 1 q m = rS q m from rfl]; omega, fun l e => by rw [show frm 1 l = rf (runs (ints l)) from rfl, e]; exact g3⟩, fun e => by cases e⟩
    · obtain ⟨g1, g2, g3, g4, g5⟩ := get_dl q hb m he
      exact ⟨g1, g2, g5, no, fun _ => ⟨g4, fun l e => by rw [show frm 2 l = dl (ints l) from rfl, e]; exact g3⟩, fun e => by cases e⟩
    · obtain ⟨g1, g2, g3, g4, g5⟩ := get_dc q hb m he
      exact ⟨g1, g2, g5, no, fun _ => ⟨g4, fun l e => by rw [show frm 3 l = dc (ints l) from rfl, e]; exact g3⟩, fun e => by cases e⟩
    · obtain ⟨g1, g2, g3, g4, g5⟩ := get_fo q hb m he
      exact ⟨g1, g2, g5, no, fun _ => ⟨g4, fun l e => by rw [show frm 4 l = fo (ints l) from rfl, e]; exact g3⟩, fun e => by cases e⟩
  · obtain ⟨g1, g2, g3, g4, g5⟩ := get_tx q hb m he
    exact ⟨g1, g2, no', g5, (fun e => by cases e), fun _ => ⟨g4, fun l e => by rw [show frm 5 l = txf (wrds l) from rfl, e]; exact g3⟩⟩
/-- The parts of bytes, read as a chunk of so many values: an error's number, which are nothing, how many aren't, the way, what is behind it. -/
def prs (b : List Nat) (n : Nat) : Int × List Nat × Nat × Nat × List Nat :=
  match b with
  | [] => (2, [], 0, 0, [])
  | x :: r =>
    if 1 < x then (4, [], 0, 0, [])
    else if x = 1 then
      if r.length < siz n then (2, [], 0, 0, [])
      else if lef (r.take (siz n)) n = true ∨ cnt (bit (r.take (siz n))) n = 0 then (4, [], 0, 0, [])
      else match r.drop (siz n) with
        | [] => (2, [], 0, 0, [])
        | w :: q => (0, r.take (siz n), n - cnt (bit (r.take (siz n))) n, w, q)
    else match r with
      | [] => (2, [], 0, 0, [])
      | w :: q => (0, [], n, w, q)
theorem prs_none (w : Nat) (q : List Nat) (n : Nat) : prs (0 :: w :: q) n = (0, [], n, w, q) := rfl
theorem prs_some {S : List Nat} {n : Nat} (h : OkS n S) (h0 : cnt (bit S) n ≠ 0) (w : Nat) (q : List Nat) : prs (1 :: (S ++ w :: q)) n = (0, S, n - cnt (bit S) n, w, q) := by
  have e1 : (S ++ w :: q).take (siz n) = S := by rw [← h.len]; simp
  have e2 : (S ++ w :: q).drop (siz n) = w :: q := by rw [← h.len]; simp
  have e3 : lef S n = false := (lef_no h.len h.byte).2 h
  have e4 : ¬ (S ++ w :: q).length < siz n := by rw [List.length_append, h.len]; omega
  unfold prs
  simp only []
  rw [if_neg (by omega), if_pos trivial, if_neg e4, e1, e2, if_neg]
  rintro (e | e)
  · rw [e3] at e; cases e
  · exact h0 e
/-- What stands in bytes whose parts are right. -/
theorem prs_ok {b : List Nat} {n : Nat} (hb : ∀ x ∈ b, x < 256) {S : List Nat} {m w : Nat} {q : List Nat} (h : prs b n = (0, S, m, w, q)) :
    (b = 0 :: w :: q ∧ S = [] ∧ m = n) ∨ (b = 1 :: (S ++ w :: q) ∧ OkS n S ∧ cnt (bit S) n ≠ 0 ∧ m = n - cnt (bit S) n) := by
  unfold prs at h
  split at h
  · cases h
  · rename_i x r
    split at h
    · cases h
    split at h
    · rename_i h1 h2
      subst h2
      split at h
      · cases h
      split at h
      · cases h
      rename_i h3 h4
      split at h
      · cases h
      · rename_i w' q' h5
        cases h
        right
        have hl : (r.take (siz n)).length = siz n := by rw [List.length_take]; omega
        have hS : ∀ x ∈ r.take (siz n), x < 256 := fun x hx => hb x (List.mem_cons_of_mem _ (List.mem_of_mem_take hx))
        refine ⟨by rw [← h5, List.take_append_drop], (lef_no hl hS).1 ?_, fun e => h4 (.inr e), rfl⟩
        cases e : lef (r.take (siz n)) n with
        | false => rfl
        | true => exact absurd (.inl e) h4
    · rename_i h1 h2
      split at h
      · cases h
      · cases h
        left
        refine ⟨?_, rfl, rfl⟩
        congr 1
        omega
/-- The error's number of reading. -/
def gtE (b : List Nat) (kd n : Int) : Int :=
  if (kd ≠ 1 ∧ kd ≠ 2) ∨ n < 0 ∨ 65536 < n then 1 else if (prs b n.toNat).1 ≠ 0 then (prs b n.toNat).1 else if ofW ((prs b n.toNat).2.2.2.1 : Int) kd = false then 11
  else wyE (prs b n.toNat).2.2.2.1 (prs b n.toNat).2.2.2.2 ((prs b n.toNat).2.2.1 : Int)
/-- The values that are read. -/
def gtV (b : List Nat) (kd n : Int) : List Vl :=
  if gtE b kd n = 0 then asm (bit (prs b n.toNat).2.1) kd (wyI (prs b n.toNat).2.2.2.1 (prs b n.toNat).2.2.2.2 ((prs b n.toNat).2.2.1 : Int)) (wyT (prs b n.toNat).2.2.2.1 (prs b n.toNat).2.2.2.2 ((prs b n.toNat).2.2.1 : Int)) n.toNat else []
theorem asm_congr {f g : Nat → Bool} {n : Nat} (h : ∀ k, k < n → f k = g k) (kd : Int) (is : List Int) (ts : List Tx) : asm f kd is ts n = asm g kd is ts n := by
  apply List.ext_getElem?
  intro k
  rcases Nat.lt_or_ge k n with hk | hk
  · rw [asm_at _ _ _ _ hk, asm_at _ _ _ _ hk]
    unfold vlA
    rw [h k hk, cnt_congr k fun j hj => h j (by omega)]
  · rw [List.getElem?_eq_none (by rw [asm_length]; omega), List.getElem?_eq_none (by rw [asm_length]; omega)]
theorem prs_put {l : List Vl} (way : Nat) : ∃ S, prs (lyB l way) l.length = (0, S, l.length - cnt (non l) l.length, way, frm way l) ∧ ∀ k, k < l.length → bit S k = non l k := by
  unfold lyB headB
  by_cases h : cnt (non l) l.length = 0
  · rw [if_pos h, h]
    refine ⟨[], ?_, fun k hk => by rw [bit_nil, cnt_none h k hk]⟩
    exact prs_none way _ _
  · rw [if_neg h]
    obtain ⟨h1, h2⟩ := setB_ok (non l) l.length
    have e : cnt (bit (setB (non l) l.length)) l.length = cnt (non l) l.length := cnt_congr _ h2
    refine ⟨setB (non l) l.length, ?_, h2⟩
    have := prs_some h1 (by rw [e]; exact h) way (frm way l)
    rw [e] at this
    rw [← this]
    congr 1
    simp
/-- What is put is read as it was, in each way. -/
theorem ck_get {kd : Int} {way : Nat} {l : List Vl} (hw : ofW (way : Int) kd = true) (hc : ckE kd l = 0) (hi : ∀ v ∈ l, In64 v.2.1) : gtE (lyB l way) kd (l.length : Int) = 0 ∧ gtV (lyB l way) kd (l.length : Int) = l := by
  obtain ⟨c1, _, _⟩ := ckE_ok hc
  obtain ⟨S, h1, h2⟩ := prs_put (l := l) way
  obtain ⟨h3, h4⟩ := wy_get hw hc hi
  have hr := ofW_range hw
  have hE : gtE (lyB l way) kd (l.length : Int) = 0 := by
    unfold gtE
    rw [if_neg (by omega), Int.toNat_natCast, h1]
    simp only [ne_eq, not_true, if_false]
    rw [if_neg (by rw [hw]; decide)]
    exact h3
  refine ⟨hE, ?_⟩
  unfold gtV
  rw [if_pos hE, Int.toNat_natCast, h1]
  simp only []
  rw [asm_congr h2]
  exact h4
/-- What is read is put, in its way, as it was. -/
theorem get_ck {b : List Nat} (hb : ∀ x ∈ b, x < 256) {kd n : Int} (h : gtE b kd n = 0) :
    (kd = 1 ∨ kd = 2) ∧ 0 ≤ n ∧ n ≤ 65536 ∧ (gtV b kd n).length = n.toNat ∧ ckE kd (gtV b kd n) = 0 ∧ (∀ v ∈ gtV b kd n, In64 v.2.1) ∧ ∃ way : Nat, ofW (way : Int) kd = true ∧ lyB (gtV b kd n) way = b ∧ (prs b n.toNat).2.2.2.1 = way := by
  have h0 := h
  unfold gtE at h
  split at h
  · cases h
  rename_i h1
  split at h
  · exact absurd h (by assumption)
  rename_i h2
  split at h
  · cases h
  rename_i h3
  obtain ⟨e, S, m, w, q, hp⟩ : ∃ e S m w q, prs b n.toNat = (e, S, m, w, q) := ⟨_, _, _, _, _, rfl⟩
  rw [hp] at h h2 h3
  simp only [] at h h2 h3
  obtain rfl : e = 0 := by omega
  have hw : ofW (w : Int) kd = true := by
    cases hw : ofW (w : Int) kd with
    | true => rfl
    | false => exact absurd hw h3
  have hV : gtV b kd n = asm (bit S) kd (wyI w q (m : Int)) (wyT w q (m : Int)) n.toNat := by
    unfold gtV; rw [if_pos h0, hp]
  have hq : ∀ x ∈ q, x < 256 := by
    rcases prs_ok hb hp with ⟨rfl, _, _⟩ | ⟨rfl, _, _⟩
    · intro x hx; exact hb x (by simp [hx])
    · intro x hx; exact hb x (by simp [hx])
  obtain ⟨g1, g2, g3, g4, g5, g6⟩ := wy_back hw hq h
  have hk : kd = 1 ∨ kd = 2 := by omega
  have hm : m = n.toNat - cnt (bit S) n.toNat := by
    rcases prs_ok hb hp with ⟨_, rfl, e⟩ | ⟨_, _, _, e⟩
    · rw [cnt_off fun k _ => bit_nil k]; omega
    · exact e
  have hf : frm w (gtV b kd n) = q := by
    rw [hV]
    rcases hk with rfl | rfl
    · exact (g5 rfl).2 _ (ints_asm _ (by rw [(g5 rfl).1]; omega))
    · exact (g6 rfl).2 _ (wrds_asm _ (by rw [(g6 rfl).1]; omega))
  have hl : (gtV b kd n).length = n.toNat := by rw [hV, asm_length]
  have hn : ∀ k, k < n.toNat → non (gtV b kd n) k = bit S k := fun k hk => by rw [hV, non_asm _ _ _ _ hk]
  refine ⟨hk, by omega, by omega, hl, ?_, ?_, w, hw, ?_, by rw [hp]⟩
  · rw [hV]; exact asm_ck hk (by omega) g4
  · rw [hV]; exact asm_in g3
  · unfold lyB headB
    rw [hf, hl, cnt_congr _ hn]
    rcases prs_ok hb hp with ⟨e1, rfl, e2⟩ | ⟨e1, e2, e3, e4⟩
    · rw [if_pos (cnt_off fun k _ => bit_nil k), e1]; rfl
    · rw [if_neg e3, setB_is e2 fun k hk => (hn k hk).symm, e1]; simp
end Go.Proofs.YthlfplljbbnaoaaGreatDoor
