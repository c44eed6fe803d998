/- Plain facts: what is put in the form of steps is read as it was; what is read is put as it was. -/
import Derived.Test.YteadmjgkmjeanaaDoorJ27
namespace Go.Proofs.YteadmjgkmjeanaaDoor
open Go.RowKit
set_option linter.unusedVariables false
set_option linter.unusedSimpArgs false
set_option maxRecDepth 100000

theorem zag_zg_map (l : List Int) (h : ∀ z ∈ l, In64 z) : (l.map zg).map (fun v : Nat => zagI (v : Int)) = l := by
  rw [List.map_map]
  conv => rhs; rw [← List.map_id l]
  exact List.map_congr_left fun z hz => zagI_zg (h z hz)
theorem zg_zag_map (l : List Nat) : (l.map (fun v : Nat => zagI (v : Int))).map zg = l := by
  rw [List.map_map]
  conv => rhs; rw [← List.map_id l]
  exact List.map_congr_left fun v _ => zg_zagI v
/-- The first number is read, whatever stands behind it. -/
theorem first_read (z : Int) (hz : In64 z) (rest : List Nat) : vst (vb (zg z) ++ rest) 1 = ((vb (zg z)).length, none) ∧ zagI (vv (vb (zg z) ++ rest) 0 : Int) = z := by
  obtain ⟨h1, h2⟩ := vst_put [z] rest (by simpa using hz) 1 (by simp)
  rw [pl_one] at h1 h2
  simp only [List.take_succ_cons, List.take_zero, pl_one] at h1 h2
  refine ⟨h1, ?_⟩
  have e : getL (vb (zg z) ++ rest) 1 = [zagI (vv (vb (zg z) ++ rest) 0 : Int)] := by simp [getL]
  rw [e] at h2
  injection h2
theorem stp_head (z : Int) (l : List Int) (hz : In64 z) : stp 0 (z :: l) = z :: stp z l := by
  simp only [stp]; rw [show z - 0 = z by omega, w64_id hz]
theorem dl_get (l : List Int) (hl : ∀ z ∈ l, In64 z) (hn : l.length ≤ 65536) : dE (dl l) (l.length : Int) = 0 ∧ dG (dl l) (l.length : Int) = l := by
  match l, hl, hn with
  | [], _, _ =>
    have h : dE (dl []) (([] : List Int).length : Int) = 0 := by
      rw [dl_nil]; exact dE_zero []
    exact ⟨h, by unfold dG; rw [if_pos h]; rfl⟩
  | [z], hl, _ =>
    have hz := hl z (by simp)
    have hd : dl [z] = vb (zg z) := by simp [dl, dl1, dl2, dl3]
    obtain ⟨h1, h2⟩ := first_read z hz []
    rw [List.append_nil] at h1 h2
    have h : dE (dl [z]) (([z] : List Int).length : Int) = 0 := by
      rw [hd]
      show dE (vb (zg z)) 1 = 0
      rw [dE_one _ (by rw [h1]), h1, if_neg (by omega)]
    refine ⟨h, ?_⟩
    unfold dG
    rw [if_pos h, hd]
    show sms 0 [zagI (vv (vb (zg z)) 0 : Int)] = [z]
    rw [h2]
    simp only [sms]
    rw [show 0 + z = z by omega, w64_id hz]
  | z :: y :: r, hl, hn =>
    have hz := hl z (by simp)
    obtain ⟨l, hle⟩ : ∃ l, l = z :: y :: r := ⟨_, rfl⟩
    have hlen : l.length = r.length + 2 := by rw [hle]; simp
    have hs : stp 0 l = z :: (stp 0 l).drop 1 := by rw [hle, stp_head z _ hz]; rfl
    have hZl : (zb l).length = l.length - 1 := zb_length l
    have hZ64 := zb_lt l
    have hK := wd_zb l
    have hd : dl l = vb (zg z) ++ (wd (zb l) :: packB (wd (zb l)) (zb l)) := by
      unfold dl dl2 dl3
      rw [if_neg (by omega), if_neg (by omega), hle, dl1_cons, List.append_assoc]
      rfl
    obtain ⟨h1, h2⟩ := first_read z hz (wd (zb l) :: packB (wd (zb l)) (zb l))
    rw [← hd] at h1 h2
    have hb := dl_byte l (by rw [hle]; exact hl)
    have hat : (dl l)[(vb (zg z)).length]? = some (wd (zb l)) := by rw [hd]; simp
    have hdrop : (dl l).drop ((vb (zg z)).length + 1) = packB (wd (zb l)) (zb l) := by rw [hd]; simp
    have hn1 : ((l.length : Int) - 1) = ((zb l).length : Int) := by rw [hZl]; omega
    obtain ⟨h3, h4⟩ := unpackE_pack (zb l) (wd (zb l)) (by rw [hZl, hle]; omega) hK (Nat.le_refl _)
    have hR : rbE (dl l) (vb (zg z)).length ((l.length : Int) - 1) = 0 := by
      unfold rbE
      rw [hat]
      simp only
      rw [if_neg (by omega), hdrop, hn1, h3, if_pos rfl, h4, if_pos rfl]
    have h : dE (dl l) (l.length : Int) = 0 := by
      rw [dE_more (dl l) hb l.length (by rw [hle] at hn1 ⊢; simp only [List.length_cons] at hn ⊢; omega) (by rw [h1]), h1]
      exact hR
    have hG : dG (dl l) (l.length : Int) = l := by
      unfold dG
      rw [if_pos h, Int.toNat_natCast]
      unfold dL
      rw [if_neg (by omega), if_neg (by omega), h1, h2]
      obtain ⟨v, e1, _, _, _, e5⟩ := rb_take (dl l) (vb (zg z)).length ((l.length : Int) - 1) hR
      rw [hat] at e1
      injection e1 with e1
      subst e1
      simp only
      rw [e5, hdrop, hn1, h4]
      unfold zb
      rw [zag_zg_map _ (fun x hx => stp_in l 0 x (List.mem_of_mem_drop hx)), ← hs]
      exact sms_stp l (by rw [hle]; exact hl) 0
    rw [← hle]
    exact ⟨h, hG⟩
/-- What is read is put as it was. -/
theorem get_dl (b : List Nat) (hb : ∀ x ∈ b, x < 256) (k : Int) (h : dE b k = 0) : 0 ≤ k ∧ k ≤ 65536 ∧ dl (dG b k) = b ∧ (dG b k).length = k.toNat ∧ ∀ z ∈ dG b k, In64 z := by
  have hk : 0 ≤ k ∧ k ≤ 65536 := by
    unfold dE at h
    by_cases hk : k < 0 ∨ 65536 < k
    · rw [if_pos hk] at h; omega
    · omega
  obtain ⟨N, rfl⟩ : ∃ N : Nat, k = (N : Int) := ⟨k.toNat, by omega⟩
  have hG : dG b (N : Int) = sms 0 (dL b N) := by unfold dG; rw [if_pos h, Int.toNat_natCast]
  refine ⟨hk.1, hk.2, ?_, ?_, by rw [hG]; exact sms_in _ 0⟩
  all_goals
    rcases Nat.eq_zero_or_pos N with h0 | h0
    · subst h0
      have hl : b = [] := by
        have e := dE_zero b
        rw [show ((0 : Nat) : Int) = 0 from rfl] at h
        rw [h] at e
        by_cases h1 : 0 < b.length
        · rw [if_pos h1] at e; omega
        · exact List.eq_nil_of_length_eq_zero (by omega)
      first
        | (rw [hG, hl]; rfl)
        | (rw [hG]; rfl)
    · have hx : (vst b 1).2 = none := by
        cases hx : (vst b 1).2 with
        | none => rfl
        | some y =>
          rw [dE_err b N y (by omega) hx] at h
          exact absurd h (vst_ok b 1 y hx)
      have hpre := put_prefix b hb 1 hx
      have hg1 : getL b 1 = [zagI (vv b 0 : Int)] := by simp [getL]
      have hin0 := zagI_in (vv_lt hb 0)
      rw [hg1, pl_one, zg_zagI] at hpre
      obtain ⟨hp1, hp2⟩ := hpre
      by_cases h1 : N = 1
      · subst h1
        have hL : dL b 1 = [zagI (vv b 0 : Int)] := rfl
        have hs : sms 0 [zagI (vv b 0 : Int)] = [zagI (vv b 0 : Int)] := by
          simp only [sms]; rw [show (0 : Int) + zagI (vv b 0 : Int) = zagI (vv b 0 : Int) by omega, w64_id hin0]
        rw [hG, hL, hs]
        have e := dE_one b hx
        rw [show ((1 : Nat) : Int) = 1 from rfl] at h
        rw [h] at e
        first
          | (have hd : dl [zagI (vv b 0 : Int)] = vb (vv b 0) := by
               simp [dl, dl1, dl2, dl3, zg_zagI]
             rw [hd, hp2]
             by_cases h2 : (vst b 1).1 < b.length
             · rw [if_pos h2] at e; omega
             · exact List.take_of_length_le (by omega))
          | rfl
      · rw [dE_more b hb N (by omega) hx] at h
        obtain ⟨v, e1, e2, e3, e4, e5⟩ := rb_take b (vst b 1).1 ((N : Int) - 1) h
        have hpa := pack_again (b.drop ((vst b 1).1 + 1)) ((N : Int) - 1) v (fun x hx => hb x (List.mem_of_mem_drop hx)) e3
        obtain ⟨p1, p2, p3, p4, _⟩ := hpa
        rw [← hx] at e5
        have hL : dL b N = zagI (vv b 0 : Int) :: (unpackS (b.drop ((vst b 1).1 + 1)) ((N : Int) - 1) v).map fun v : Nat => zagI (v : Int) := by
          unfold dL; rw [if_neg (by omega), if_neg h1, e5]
        obtain ⟨L, hLd⟩ : ∃ L, L = unpackS (b.drop ((vst b 1).1 + 1)) ((N : Int) - 1) v := ⟨_, rfl⟩
        rw [← hLd] at hL p1 p2 p3 p4 e4
        have hin : ∀ z ∈ dL b N, In64 z := dL_in hb N
        have hst := stp_sms (dL b N) hin 0
        have hlen : (dL b N).length = N := by rw [hL, List.length_cons, List.length_map, p3]; omega
        have hgl : (sms 0 (dL b N)).length = N := by rw [sms_length, hlen]
        rw [hG]
        first
          | (have hzb : zb (sms 0 (dL b N)) = L := by
               unfold zb; rw [hst, hL]; simp only [List.drop_succ_cons, List.drop_zero]; exact zg_zag_map L
             have hps : packB v L = b.drop ((vst b 1).1 + 1) := by
               rw [← p2]; unfold packS; rw [if_pos p1]; rfl
             have hh : dl1 (sms 0 (dL b N)) = vb (vv b 0) := by
               rw [hL]; simp only [sms, dl1]
               rw [show (0 : Int) + zagI (vv b 0 : Int) = zagI (vv b 0 : Int) by omega, w64_id hin0, zg_zagI]
             unfold dl dl2 dl3
             rw [if_neg (by omega), if_neg (by omega), hzb, e4, hh, hp2, hps, List.append_assoc]
             obtain ⟨hl, hv⟩ := List.getElem?_eq_some_iff.1 e1
             rw [List.singleton_append, ← hv, ← List.drop_eq_getElem_cons hl, List.take_append_drop])
          | (rw [hgl]; rfl)
end Go.Proofs.YteadmjgkmjeanaaDoor
