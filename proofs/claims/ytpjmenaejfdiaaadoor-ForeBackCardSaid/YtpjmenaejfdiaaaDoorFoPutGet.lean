/- Plain facts: what is put in the form by the least one is read as it was; what is read is put as it was. No program. -/
import Derived.Test.YtpjmenaejfdiaaaDoorJ26
import Derived.Test.YtpjmenaejfdiaaaDoorFirstRead
namespace Go.Proofs.YtpjmenaejfdiaaaDoor
open Go.RowKit
set_option linter.unusedVariables false
set_option linter.unusedSimpArgs false
set_option maxRecDepth 100000

theorem fo_get (l : List Int) (hl : ∀ z ∈ l, In64 z) (hn : l.length ≤ 65536) : fE (fo l) (l.length : Int) = 0 ∧ fG (fo l) (l.length : Int) = l := by
  by_cases he : l = []
  · subst he
    have h : fE (fo []) (([] : List Int).length : Int) = 0 := by rw [fo_nil]; exact fE_zero []
    exact ⟨h, fG_zero _⟩
  · have hp : 1 ≤ l.length := by
      rcases Nat.eq_zero_or_pos l.length with h | h
      · exact absurd (List.eq_nil_of_length_eq_zero h) he
      · exact h
    obtain ⟨m, hm⟩ : ∃ m, m = ls l := ⟨_, rfl⟩
    have hm64 : In64 m := by rw [hm]; exact ls_in hl
    have hD64 := dfs_lt hl hm64
    have hDl := dfs_length m l
    have hK : wd (dfs m l) ≤ 64 := by rw [hm]; exact wd_dfs hl
    have hd : fo l = vb (zg m) ++ (wd (dfs m l) :: packB (wd (dfs m l)) (dfs m l)) := by
      rw [fo_ne he]
      unfold foB
      rw [← hm]
      rfl
    have h0 : 0 ∈ dfs m l := by rw [hm]; exact dfs_zero he
    obtain ⟨h1, h2⟩ := first_read m hm64 (wd (dfs m l) :: packB (wd (dfs m l)) (dfs m l))
    rw [← hd] at h1 h2
    have hb := fo_byte hl
    have hat : (fo l)[(vb (zg m)).length]? = some (wd (dfs m l)) := by rw [hd]; simp
    have hdrop : (fo l).drop ((vb (zg m)).length + 1) = packB (wd (dfs m l)) (dfs m l) := by rw [hd]; simp
    obtain ⟨h3, h4⟩ := unpackE_pack (dfs m l) (wd (dfs m l)) (by omega) hK (Nat.le_refl _)
    rw [hDl] at h3 h4
    have hR : rbE (fo l) (vb (zg m)).length (l.length : Int) = 0 := by
      unfold rbE
      rw [hat]
      simp only
      rw [if_neg (by omega), hdrop, h3, if_pos rfl, h4, if_pos rfl]
    have hS : (rbS (fo l) (vb (zg m)).length none (l.length : Int)).1 = dfs m l := by
      obtain ⟨v, e1, _, _, _, e5⟩ := rb_take (fo l) (vb (zg m)).length (l.length : Int) hR
      rw [hat] at e1
      injection e1 with e1
      subst e1
      rw [e5, hdrop, h4]
    have hM : fM (fo l) = m := h2
    have hf : fitB m (dfs m l) = true := by
      refine fitB_iff.2 ⟨h0, fun d hd => ?_⟩
      obtain ⟨z, hz, rfl⟩ := List.mem_map.1 hd
      have := hl z hz
      unfold In64 at this hm64
      unfold roomI
      omega
    have h : fE (fo l) (l.length : Int) = 0 := by
      rw [fE_more (fo l) hb l.length ⟨hp, hn⟩ (by rw [h1]), h1, hM]
      show raE (fo l) (vb (zg m)).length (l.length : Int) m = 0
      unfold raE
      rw [if_pos hR, hS, if_pos hf]
    refine ⟨h, ?_⟩
    unfold fG
    rw [if_pos h, Int.toNat_natCast, hM]
    unfold fD
    rw [if_neg (by omega), h1]
    show ups m (rbS (fo l) (vb (zg m)).length none (l.length : Int)).1 = l
    rw [hS]
    exact ups_dfs (fun z hz => by rw [hm]; exact ls_le z hz)
/-- What is read is put as it was. -/
theorem get_fo (b : List Nat) (hb : ∀ x ∈ b, x < 256) (k : Int) (h : fE b k = 0) : 0 ≤ k ∧ k ≤ 65536 ∧ fo (fG b k) = b ∧ (fG b k).length = k.toNat ∧ ∀ z ∈ fG b k, In64 z := by
  have hk : 0 ≤ k ∧ k ≤ 65536 := by
    unfold fE at h
    by_cases hk : k < 0 ∨ 65536 < k
    · rw [if_pos hk] at h; omega
    · omega
  obtain ⟨N, rfl⟩ : ∃ N : Nat, k = (N : Int) := ⟨k.toNat, by omega⟩
  have hG : fG b (N : Int) = ups (fM b) (fD b N) := by unfold fG; rw [if_pos h, Int.toNat_natCast]
  obtain ⟨hlen, hfit⟩ := fD_ok hb (by omega) h
  have hM64 := fM_in hb
  refine ⟨hk.1, hk.2, ?_, by rw [hG, ups_length, hlen]; simp, ?_⟩
  · rcases Nat.eq_zero_or_pos N with h0 | h0
    · subst h0
      have hl : b = [] := by
        have e := fE_zero b
        rw [show ((0 : Nat) : Int) = 0 from rfl] at h
        rw [h] at e
        by_cases h1 : 0 < b.length
        · rw [if_pos h1] at e; omega
        · exact List.eq_nil_of_length_eq_zero (by omega)
      rw [hl]; rfl
    · have hx := fE_vst ⟨h0, by omega⟩ h
      have hpre := put_prefix b hb 1 hx
      have hg1 : getL b 1 = [zagI (vv b 0 : Int)] := by simp [getL]
      rw [hg1, pl_one] at hpre
      obtain ⟨hp1, hp2⟩ := hpre
      change vb (zg (fM b)) = _ at hp2
      rw [fE_more b hb N ⟨h0, by omega⟩ hx] at h
      obtain ⟨hr, hf⟩ := ra_zero h
      obtain ⟨v, e1, e2, e3, e4, e5⟩ := rb_take b (vst b 1).1 (N : Int) hr
      obtain ⟨p1, p2, p3, p4, _⟩ := pack_again (b.drop ((vst b 1).1 + 1)) (N : Int) v (fun x hx => hb x (List.mem_of_mem_drop hx)) e3
      have hD : fD b N = unpackS (b.drop ((vst b 1).1 + 1)) (N : Int) v := by
        unfold fD; rw [if_neg (by omega), hx]; exact e5
      rw [e5] at hf
      obtain ⟨L, hLd⟩ : ∃ L, L = unpackS (b.drop ((vst b 1).1 + 1)) (N : Int) v := ⟨_, rfl⟩
      rw [← hLd] at hD p1 p2 p3 p4 e4 hf
      have h00 := (fitB_iff.1 hf).1
      have hne : ups (fM b) L ≠ [] := by
        intro e
        have := ups_length (fM b) L
        rw [e, p3] at this
        simp at this
        omega
      have hps : packB v L = b.drop ((vst b 1).1 + 1) := by rw [← p2]; unfold packS; rw [if_pos p1]; rfl
      rw [hG, hD, fo_ne hne]
      unfold foB
      rw [ls_ups h00, dfs_ups, e4, hps, hp2]
      obtain ⟨hl, hv⟩ := List.getElem?_eq_some_iff.1 e1
      rw [List.singleton_append, ← hv, ← List.drop_eq_getElem_cons hl, List.take_append_drop]
  · intro z hz
    rw [hG] at hz
    obtain ⟨d, hd, rfl⟩ := List.mem_map.1 hz
    have := hfit d hd
    unfold In64 at hM64 ⊢
    unfold roomI at this
    omega
end Go.Proofs.YtpjmenaejfdiaaaDoor
