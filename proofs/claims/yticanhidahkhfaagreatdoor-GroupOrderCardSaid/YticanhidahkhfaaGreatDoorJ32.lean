import Derived.Test.YticanhidahkhfaaGreatDoorJ27
import Derived.Test.YticanhidahkhfaaGreatDoorJ29
import Derived.Test.YticanhidahkhfaaGreatDoorJ11
import Derived.Test.YticanhidahkhfaaGreatDoorJ31
import Derived.Test.YticanhidahkhfaaGreatDoorJ23
import Derived.Test.YticanhidahkhfaaGreatDoorJ3
namespace Go.Proofs.YticanhidahkhfaaGreatDoor
open Go.RowKit
set_option linter.unusedVariables false
set_option linter.unusedSimpArgs false
set_option maxRecDepth 100000
theorem fo_get (l : List Int) (hl : ∀ z ∈ l, In64 z) (hn : l.length ≤ 65536) : fE (fo l) (l.length : Int) = 0 ∧ fG (fo l) (l.length : Int) = l := by
  by_cases he : l = []
  · subst he
    have h : fE (fo []) (([] : List Int).length : Int) = 0 := by rw [fo_nil]; exact fE_zero []
    exact ⟨h, fG_zero _⟩
  · have hp : 1 ≤ l.length := by
      rcases Nat.eq_zero_or_pos l.length with h | h
      · exact absurd (List.eq_nil_of_length_eq_zero h) he
      · exact h
    obtain ⟨m, hm⟩ : ∃ m, m = ls l := ⟨_, rfl⟩
    have hm64 : In64 m := by rw [hm]; exact ls_in hl
    have hD64 := dfs_lt hl hm64
    have hDl := dfs_length m l
    have hK : wd (dfs m l) ≤ 64 := by rw [hm]; exact wd_dfs hl
    have hd : fo l = vb (zg m) ++ (wd (dfs m l) :: packB (wd (dfs m l)) (dfs m l)) := by
      rw [fo_ne he]
      unfold foB
      rw [← hm]
      rfl
    have h0 : 0 ∈ dfs m l := by rw [hm]; exact dfs_zero he
    obtain ⟨h1, h2⟩ := first_read m hm64 (wd (dfs m l) :: packB (wd (dfs m l)) (dfs m l))
    rw [← hd] at h1 h2
    have hb := fo_byte hl
    have hat : (fo l)[(vb (zg m)).length]? = some (wd (dfs m l)) := by rw [hd]; simp
    have hdrop : (fo l).drop ((vb (zg m)).length + 1) = packB (wd (dfs m l)) (dfs m l) := by rw [hd]; simp
    obtain ⟨h3, h4⟩ := unpackE_pack (dfs m l) (wd (dfs m l)) (by omega) hK (Nat.le_refl _)
    rw [hDl] at h3 h4
    have hR : rbE (fo l) (vb (zg m)).length (l.length : Int) = 0 := by
      unfold rbE
      rw [hat]
      simp only
      rw [if_neg (by omega), hdrop, h3, if_pos rfl, h4, if_pos rfl]
    have hS : (rbS (fo l) (vb (zg m)).length none (l.length : Int)).1 = dfs m l := by
      obtain ⟨v, e1, _, _, _, e5⟩ := rb_take (fo l) (vb (zg m)).length (l.length : Int) hR
      rw [hat] at e1
      injection e1 with e1
      subst e1
      rw [e5, hdrop, h4]
    have hM : fM (fo l) = m := h2
    have hf : fitB m (dfs m l) = true := by
      refine fitB_iff.2 ⟨h0, fun d hd => ?_⟩
      obtain ⟨z, hz, rfl⟩ := List.mem_map.1 hd
      have := hl z hz
      unfold In64 at this hm64
      unfold roomI
      omega
    have h : fE (fo l) (l.length : Int) = 0 := by
      rw [fE_more (fo l) hb l.length ⟨hp, hn⟩ (by rw [h1]), h1, hM]
      show raE (fo l) (vb (zg m)).length (l.length : Int) m = 0
      unfold raE
      rw [if_pos hR, hS, if_pos hf]
    refine ⟨h, ?_⟩
    unfold fG
    rw [if_pos h, Int.toNat_natCast, hM]
    unfold fD
    rw [if_neg (by omega), h1]
    show ups m (rbS (fo l) (vb (zg m)).length none (l.length : Int)).1 = l
    rw [hS]
    exact ups_dfs (fun z hz => by rw [hm]; exact ls_le z hz)
theorem get_fo (b : List Nat) (hb : ∀ x ∈ b, x < 256) (k : Int) (h : fE b k = 0) : 0 ≤ k ∧ k ≤ 65536 ∧ fo (fG b k) = b ∧ (fG b k).length = k.toNat ∧ ∀ z ∈ fG b k, In64 z := by
  have hk : 0 ≤ k ∧ k ≤ 65536 := by
    unfold fE at h
    by_cases hk : k < 0 ∨ 65536 < k
    · rw [if_pos hk] at h; omega
    · omega
  obtain ⟨N, rfl⟩ : ∃ N : Nat, k = (N : Int) := ⟨k.toNat, by omega⟩
  have hG : fG b (N : Int) = ups (fM b) (fD b N) := by unfold fG; rw [if_pos h, Int.toNat_natCast]
  obtain ⟨hlen, hfit⟩ := fD_ok hb (by omega) h
  have hM64 := fM_in hb
  refine ⟨hk.1, hk.2, ?_, by rw [hG, ups_length, hlen]; simp, ?_⟩
  · rcases Nat.eq_zero_or_pos N with h0 | h0
    · subst h0
      have hl : b = [] := by
        have e := fE_zero b
        rw [show ((0 : Nat) : Int) = 0 from rfl] at h
        rw [h] at e
        by_cases h1 : 0 < b.length
        · rw [if_pos h1] at e; omega
        · exact List.eq_nil_of_length_eq_zero (by omega)
      rw [hl]; rfl
    · have hx := fE_vst ⟨h0, by omega⟩ h
      have hpre := put_prefix b hb 1 hx
      have hg1 : getL b 1 = [zagI (vv b 0 : Int)] := by simp [getL]
      rw [hg1, pl_one] at hpre
      obtain ⟨hp1, hp2⟩ := hpre
      change vb (zg (fM b)) = _ at hp2
      rw [fE_more b hb N ⟨h0, by omega⟩ hx] at h
      obtain ⟨hr, hf⟩ := ra_zero h
      obtain ⟨v, e1, e2, e3, e4, e5⟩ := rb_take b (vst b 1).1 (N : Int) hr
      obtain ⟨p1, p2, p3, p4, _⟩ := pack_again (b.drop ((vst b 1).1 + 1)) (N : Int) v (fun x hx => hb x (List.mem_of_mem_drop hx)) e3
      have hD : fD b N = unpackS (b.drop ((vst b 1).1 + 1)) (N : Int) v := by
        unfold fD; rw [if_neg (by omega), hx]; exact e5
      rw [e5] at hf
      obtain ⟨L, hLd⟩ : ∃ L, L = unpackS (b.drop ((vst b 1).1 + 1)) (N : Int) v := ⟨_, rfl⟩
      rw [← hLd] at hD p1 p2 p3 p4 e4 hf
      have h00 := (fitB_iff.1 hf).1
      have hne : ups (fM b) L ≠ [] := by
        intro e
        have := ups_length (fM b) L
        rw [e, p3] at this
        simp at this
        omega
      have hps : packB v L = b.drop ((vst b 1).1 + 1) := by rw [← p2]; unfold packS; rw [if_pos p1]; rfl
      rw [hG, hD, fo_ne hne]
      unfold foB
      rw [ls_ups h00, dfs_ups, e4, hps, hp2]
      obtain ⟨hl, hv⟩ := List.getElem?_eq_some_iff.1 e1
      rw [List.singleton_append, ← hv, ← List.drop_eq_getElem_cons hl, List.take_append_drop]
  · intro z hz
    rw [hG] at hz
    obtain ⟨d, hd, rfl⟩ := List.mem_map.1 hz
    have := hfit d hd
    unfold In64 at hM64 ⊢
    unfold roomI at this
    omega
end Go.Proofs.YticanhidahkhfaaGreatDoor
namespace Go.Proofs.YticanhidahkhfaaGreatDoor
open Go.RowKit
set_option linter.unusedVariables false
set_option linter.unusedSimpArgs false
def wyE (way : Nat) (q : List Nat) (m : Int) : Int :=
  if way = 0 then getE q m else if way = 1 then rE q m else if way = 2 then dE q m else if way = 3 then dcE q m else if way = 4 then fE q m else txE q m
def wyI (way : Nat) (q : List Nat) (m : Int) : List Int :=
  if way = 0 then getS q m else if way = 1 then rS q m else if way = 2 then dG q m else if way = 3 then dcG q m else if way = 4 then fG q m else []
def wyT (way : Nat) (q : List Nat) (m : Int) : List Tx := if way = 5 then txG q m else []
theorem ofW_ways {way : Nat} {kd : Int} (h : ofW (way : Int) kd = true) : kd = 1 ∧ (way = 0 ∨ way = 1 ∨ way = 2 ∨ way = 3 ∨ way = 4) ∨ kd = 2 ∧ way = 5 := by
  have := ofW_range h
  omega
theorem frm_byte {way : Nat} {l : List Vl} (hl : l.length ≤ 65536) (hi : ∀ v ∈ l, In64 v.2.1) (ht : ∀ v ∈ l, v.2.2.length ≤ 65536) : ∀ b ∈ frm way l, b < 256 := by
  have h1 := ints_in hi
  have h2 := ints_length_le l
  have h3 := wrds_length_le l
  have h4 := wrds_short ht
  unfold frm
  split
  · exact pl_byte _ h1
  split
  · exact rf_byte h1 (by omega)
  split
  · exact dl_byte _ h1
  split
  · exact dc_byte _ (by omega) h1
  split
  · exact fo_byte h1
  · exact txf_byte _ (by omega) h4
theorem wy_get {way : Nat} {kd : Int} {l : List Vl} (h : ofW (way : Int) kd = true) (hc : ckE kd l = 0) (hi : ∀ v ∈ l, In64 v.2.1) :
    wyE way (frm way l) ((l.length - cnt (non l) l.length : Nat) : Int) = 0 ∧ asm (non l) kd (wyI way (frm way l) ((l.length - cnt (non l) l.length : Nat) : Int)) (wyT way (frm way l) ((l.length - cnt (non l) l.length : Nat) : Int)) l.length = l := by
  obtain ⟨c1, c2, c3⟩ := ckE_ok hc
  have h1 := ints_in hi
  have h2 := ints_length_le l
  have h3 := wrds_length_le l
  have h4 := wrds_short c2
  have ha : ∀ is ts, (kd = 1 → is = ints l) → (kd = 2 → ts = wrds l) → asm (non l) kd is ts l.length = l := by
    intro is ts e1 e2
    have e := asm_of c3
    rcases ofW_ways h with ⟨rfl, _⟩ | ⟨rfl, _⟩
    · rw [e1 rfl]; exact e
    · rw [e2 rfl]; exact e
  rcases ofW_ways h with ⟨rfl, hw⟩ | ⟨rfl, rfl⟩
  · rw [← ints_all c3]
    rcases hw with rfl | rfl | rfl | rfl | rfl
    · obtain ⟨g1, g2⟩ := get_put (ints l) h1 (by omega)
      exact ⟨g1, ha _ _ (fun _ => g2) (fun e => by cases e)⟩
    · obtain ⟨g1, g2⟩ := rn_get_put h1 (by omega)
      exact ⟨g1, ha _ _ (fun _ => g2) (fun e => by cases e)⟩
    · obtain ⟨g1, g2⟩ := dl_get (ints l) h1 (by omega)
      exact ⟨g1, ha _ _ (fun _ => g2) (fun e => by cases e)⟩
    · obtain ⟨g1, g2⟩ := dc_get (ints l) h1 (by omega)
      exact ⟨g1, ha _ _ (fun _ => g2) (fun e => by cases e)⟩
    · obtain ⟨g1, g2⟩ := fo_get (ints l) h1 (by omega)
      exact ⟨g1, ha _ _ (fun _ => g2) (fun e => by cases e)⟩
  · rw [← wrds_all c3]
    obtain ⟨g1, g2⟩ := tx_get (wrds l) h4 (by omega)
    exact ⟨g1, ha _ _ (fun e => by cases e) (fun _ => g2)⟩
theorem wy_back {way : Nat} {kd : Int} {q : List Nat} {m : Int} (h : ofW (way : Int) kd = true) (hb : ∀ x ∈ q, x < 256) (he : wyE way q m = 0) :
    0 ≤ m ∧ m ≤ 65536 ∧ (∀ z ∈ wyI way q m, In64 z) ∧ (∀ s ∈ wyT way q m, s.length ≤ 65536) ∧
    (kd = 1 → (wyI way q m).length = m.toNat ∧ ∀ l, ints l = wyI way q m → frm way l = q) ∧ (kd = 2 → (wyT way q m).length = m.toNat ∧ ∀ l, wrds l = wyT way q m → frm way l = q) := by
  have no : ∀ s ∈ ([] : List Tx), s.length ≤ 65536 := fun s hs => by cases hs
  have no' : ∀ s ∈ ([] : List Int), In64 s := fun s hs => by cases hs
  rcases ofW_ways h with ⟨rfl, hw⟩ | ⟨rfl, rfl⟩
  · rcases hw with rfl | rfl | rfl | rfl | rfl
    · obtain ⟨g1, g2, g3, g4, g5⟩ := put_get q hb m he
      exact ⟨g1, g2, g5, no, fun _ => ⟨g4, fun l e => by rw [show frm 0 l = pl (ints l) from rfl, e]; exact g3⟩, fun e => by cases e⟩
    · obtain ⟨g1, g2, g3, g4, g5⟩ := rn_put_get q hb m he
      exact ⟨g1, g2, g5, no, fun _ => ⟨by rw [show wyI 1 q m = rS q m from rfl]; omega, fun l e => by rw [show frm 1 l = rf (runs (ints l)) from rfl, e]; exact g3⟩, fun e => by cases e⟩
    · obtain ⟨g1, g2, g3, g4, g5⟩ := get_dl q hb m he
      exact ⟨g1, g2, g5, no, fun _ => ⟨g4, fun l e => by rw [show frm 2 l = dl (ints l) from rfl, e]; exact g3⟩, fun e => by cases e⟩
    · obtain ⟨g1, g2, g3, g4, g5⟩ := get_dc q hb m he
      exact ⟨g1, g2, g5, no, fun _ => ⟨g4, fun l e => by rw [show frm 3 l = dc (ints l) from rfl, e]; exact g3⟩, fun e => by cases e⟩
    · obtain ⟨g1, g2, g3, g4, g5⟩ := get_fo q hb m he
      exact ⟨g1, g2, g5, no, fun _ => ⟨g4, fun l e => by rw [show frm 4 l = fo (ints l) from rfl, e]; exact g3⟩, fun e => by cases e⟩
  · obtain ⟨g1, g2, g3, g4, g5⟩ := get_tx q hb m he
    exact ⟨g1, g2, no', g5, (fun e => by cases e), fun _ => ⟨g4, fun l e => by rw [show frm 5 l = txf (wrds l) from rfl, e]; exact g3⟩⟩
def prs (b : List Nat) (n : Nat) : Int × List Nat × Nat × Nat × List Nat :=
  match b with
  | [] => (2, [], 0, 0, [])
  | x :: r =>
    if 1 < x then (4, [], 0, 0, [])
    else if x = 1 then
      if r.length < siz n then (2, [], 0, 0, [])
      else if lef (r.take (siz n)) n = true ∨ cnt (bit (r.take (siz n))) n = 0 then (4, [], 0, 0, [])
      else match r.drop (siz n) with
        | [] => (2, [], 0, 0, [])
        | w :: q => (0, r.take (siz n), n - cnt (bit (r.take (siz n))) n, w, q)
    else match r with
      | [] => (2, [], 0, 0, [])
      | w :: q => (0, [], n, w, q)
theorem prs_none (w : Nat) (q : List Nat) (n : Nat) : prs (0 :: w :: q) n = (0, [], n, w, q) := rfl
theorem prs_some {S : List Nat} {n : Nat} (h : OkS n S) (h0 : cnt (bit S) n ≠ 0) (w : Nat) (q : List Nat) : prs (1 :: (S ++ w :: q)) n = (0, S, n - cnt (bit S) n, w, q) := by
  have e1 : (S ++ w :: q).take (siz n) = S := by rw [← h.len]; simp
  have e2 : (S ++ w :: q).drop (siz n) = w :: q := by rw [← h.len]; simp
  have e3 : lef S n = false := (lef_no h.len h.byte).2 h
  have e4 : ¬ (S ++ w :: q).length < siz n := by rw [List.length_append, h.len]; omega
  unfold prs
  simp only []
  rw [if_neg (by omega), if_pos trivial, if_neg e4, e1, e2, if_neg]
  rintro (e | e)
  · rw [e3] at e; cases e
  · exact h0 e
theorem prs_ok {b : List Nat} {n : Nat} (hb : ∀ x ∈ b, x < 256) {S : List Nat} {m w : Nat} {q : List Nat} (h : prs b n = (0, S, m, w, q)) :
    (b = 0 :: w :: q ∧ S = [] ∧ m = n) ∨ (b = 1 :: (S ++ w :: q) ∧ OkS n S ∧ cnt (bit S) n ≠ 0 ∧ m = n - cnt (bit S) n) := by
  unfold prs at h
  split at h
  · cases h
  · rename_i x r
    split at h
    · cases h
    split at h
    · rename_i h1 h2
      subst h2
      split at h
      · cases h
      split at h
      · cases h
      rename_i h3 h4
      split at h
      · cases h
      · rename_i w' q' h5
        cases h
        right
        have hl : (r.take (siz n)).length = siz n := by rw [List.length_take]; omega
        have hS : ∀ x ∈ r.take (siz n), x < 256 := fun x hx => hb x (List.mem_cons_of_mem _ (List.mem_of_mem_take hx))
        refine ⟨by rw [← h5, List.take_append_drop], (lef_no hl hS).1 ?_, fun e => h4 (.inr e), rfl⟩
        cases e : lef (r.take (siz n)) n with
        | false => rfl
        | true => exact absurd (.inl e) h4
    · rename_i h1 h2
      split at h
      · cases h
      · cases h
        left
        refine ⟨?_, rfl, rfl⟩
        congr 1
        omega
def gtE (b : List Nat) (kd n : Int) : Int :=
  if (kd ≠ 1 ∧ kd ≠ 2) ∨ n < 0 ∨ 65536 < n then 1 else if (prs b n.toNat).1 ≠ 0 then (prs b n.toNat).1 else if ofW ((prs b n.toNat).2.2.2.1 : Int) kd = false then 11
  else wyE (prs b n.toNat).2.2.2.1 (prs b n.toNat).2.2.2.2 ((prs b n.toNat).2.2.1 : Int)
def gtV (b : List Nat) (kd n : Int) : List Vl :=
  if gtE b kd n = 0 then asm (bit (prs b n.toNat).2.1) kd (wyI (prs b n.toNat).2.2.2.1 (prs b n.toNat).2.2.2.2 ((prs b n.toNat).2.2.1 : Int)) (wyT (prs b n.toNat).2.2.2.1 (prs b n.toNat).2.2.2.2 ((prs b n.toNat).2.2.1 : Int)) n.toNat else []
theorem asm_congr {f g : Nat → Bool} {n : Nat} (h : ∀ k, k < n → f k = g k) (kd : Int) (is : List Int) (ts : List Tx) : asm f kd is ts n = asm g kd is ts n := by
  apply List.ext_getElem?
  intro k
  rcases Nat.lt_or_ge k n with hk | hk
  · rw [asm_at _ _ _ _ hk, asm_at _ _ _ _ hk]
    unfold vlA
    rw [h k hk, cnt_congr k fun j hj => h j (by omega)]
  · rw [List.getElem?_eq_none (by rw [asm_length]; omega), List.getElem?_eq_none (by rw [asm_length]; omega)]
theorem prs_put {l : List Vl} (way : Nat) : ∃ S, prs (lyB l way) l.length = (0, S, l.length - cnt (non l) l.length, way, frm way l) ∧ ∀ k, k < l.length → bit S k = non l k := by
  unfold lyB headB
  by_cases h : cnt (non l) l.length = 0
  · rw [if_pos h, h]
    refine ⟨[], ?_, fun k hk => by rw [bit_nil, cnt_none h k hk]⟩
    exact prs_none way _ _
  · rw [if_neg h]
    obtain ⟨h1, h2⟩ := setB_ok (non l) l.length
    have e : cnt (bit (setB (non l) l.length)) l.length = cnt (non l) l.length := cnt_congr _ h2
    refine ⟨setB (non l) l.length, ?_, h2⟩
    have := prs_some h1 (by rw [e]; exact h) way (frm way l)
    rw [e] at this
    rw [← this]
    congr 1
    simp
theorem ck_get {kd : Int} {way : Nat} {l : List Vl} (hw : ofW (way : Int) kd = true) (hc : ckE kd l = 0) (hi : ∀ v ∈ l, In64 v.2.1) : gtE (lyB l way) kd (l.length : Int) = 0 ∧ gtV (lyB l way) kd (l.length : Int) = l := by
  obtain ⟨c1, _, _⟩ := ckE_ok hc
  obtain ⟨S, h1, h2⟩ := prs_put (l := l) way
  obtain ⟨h3, h4⟩ := wy_get hw hc hi
  have hr := ofW_range hw
  have hE : gtE (lyB l way) kd (l.length : Int) = 0 := by
    unfold gtE
    rw [if_neg (by omega), Int.toNat_natCast, h1]
    simp only [ne_eq, not_true, if_false]
    rw [if_neg (by rw [hw]; decide)]
    exact h3
  refine ⟨hE, ?_⟩
  unfold gtV
  rw [if_pos hE, Int.toNat_natCast, h1]
  simp only []
  rw [asm_congr h2]
  exact h4
theorem get_ck {b : List Nat} (hb : ∀ x ∈ b, x < 256) {kd n : Int} (h : gtE b kd n = 0) :
    (kd = 1 ∨ kd = 2) ∧ 0 ≤ n ∧ n ≤ 65536 ∧ (gtV b kd n).length = n.toNat ∧ ckE kd (gtV b kd n) = 0 ∧ (∀ v ∈ gtV b kd n, In64 v.2.1) ∧ ∃ way : Nat, ofW (way : Int) kd = true ∧ lyB (gtV b kd n) way = b ∧ (prs b n.toNat).2.2.2.1 = way := by
  have h0 := h
  unfold gtE at h
  split at h
  · cases h
  rename_i h1
  split at h
  · exact absurd h (by assumption)
  rename_i h2
  split at h
  · cases h
  rename_i h3
  obtain ⟨e, S, m, w, q, hp⟩ : ∃ e S m w q, prs b n.toNat = (e, S, m, w, q) := ⟨_, _, _, _, _, rfl⟩
  rw [hp] at h h2 h3
  simp only [] at h h2 h3
  obtain rfl : e = 0 := by omega
  have hw : ofW (w : Int) kd = true := by
    cases hw : ofW (w : Int) kd with
    | true => rfl
    | false => exact absurd hw h3
  have hV : gtV b kd n = asm (bit S) kd (wyI w q (m : Int)) (wyT w q (m : Int)) n.toNat := by
    unfold gtV; rw [if_pos h0, hp]
  have hq : ∀ x ∈ q, x < 256 := by
    rcases prs_ok hb hp with ⟨rfl, _, _⟩ | ⟨rfl, _, _⟩
    · intro x hx; exact hb x (by simp [hx])
    · intro x hx; exact hb x (by simp [hx])
  obtain ⟨g1, g2, g3, g4, g5, g6⟩ := wy_back hw hq h
  have hk : kd = 1 ∨ kd = 2 := by omega
  have hm : m = n.toNat - cnt (bit S) n.toNat := by
    rcases prs_ok hb hp with ⟨_, rfl, e⟩ | ⟨_, _, _, e⟩
    · rw [cnt_off fun k _ => bit_nil k]; omega
    · exact e
  have hf : frm w (gtV b kd n) = q := by
    rw [hV]
    rcases hk with rfl | rfl
    · exact (g5 rfl).2 _ (ints_asm _ (by rw [(g5 rfl).1]; omega))
    · exact (g6 rfl).2 _ (wrds_asm _ (by rw [(g6 rfl).1]; omega))
  have hl : (gtV b kd n).length = n.toNat := by rw [hV, asm_length]
  have hn : ∀ k, k < n.toNat → non (gtV b kd n) k = bit S k := fun k hk => by rw [hV, non_asm _ _ _ _ hk]
  refine ⟨hk, by omega, by omega, hl, ?_, ?_, w, hw, ?_, by rw [hp]⟩
  · rw [hV]; exact asm_ck hk (by omega) g4
  · rw [hV]; exact asm_in g3
  · unfold lyB headB
    rw [hf, hl, cnt_congr _ hn]
    rcases prs_ok hb hp with ⟨e1, rfl, e2⟩ | ⟨e1, e2, e3, e4⟩
    · rw [if_pos (cnt_off fun k _ => bit_nil k), e1]; rfl
    · rw [if_neg e3, setB_is e2 fun k hk => (hn k hk).symm, e1]; simp
end Go.Proofs.YticanhidahkhfaaGreatDoor
namespace Go.Proofs.YticanhidahkhfaaGreatDoor
open Go.RowKit
set_option linter.unusedVariables false
set_option linter.unusedSimpArgs false
set_option maxRecDepth 100000
def ofV (way : Nat) (q : List Nat) (m : Int) : List Vl := if way = 5 then ofT (wyT way q m) else ofN (wyI way q m)
def nS (b : List Nat) (at_ : Nat) (x : Option (Int × Nat)) (n : Nat) : List Nat × Nat × Option (Int × Nat) :=
  let t := takeS b at_ x (siz n : Int)
  let x2 := failS t.2.1 t.2.2 (rdE t.1 (n : Int) : Int)
  (t.1, t.2.1, if rdE t.1 (n : Int) = 0 ∧ cnt (bit t.1) n ≠ 0 then x2 else failS t.2.1 x2 4)
def nC (t : List Nat) (n : Nat) : Nat := if rdE t (n : Int) = 0 then cnt (bit t) n else 0
def oS (b : List Nat) (at_ : Nat) (x : Option (Int × Nat)) (kd m : Int) : List Vl × Nat × Option (Int × Nat) :=
  let f := fixS b at_ x 1
  if ofW (f.1 : Int) kd = true then
    let t := takeS b f.2.1 f.2.2 ((b.length : Int) - f.2.1)
    (ofV f.1 t.1 m, t.2.1, failS t.2.1 t.2.2 (wyE f.1 t.1 m))
  else ([], f.2.1, failS f.2.1 f.2.2 11)
theorem nC_le (t : List Nat) (n : Nat) : nC t n ≤ n := by
  unfold nC
  split
  · exact cnt_le _ _
  · omega
theorem oS_some (b : List Nat) (at_ : Nat) (y : Int × Nat) (kd m : Int) : (oS b at_ (some y) kd m).2.2 = some y := by
  unfold oS fixS
  simp only
  split
  · unfold takeS failS; rfl
  · unfold failS; rfl
theorem oS_short (b : List Nat) (at_ : Nat) (kd m : Int) (h : b.length = at_) : (oS b at_ none kd m).2.2 = some (2, at_) := by
  have hf : fixS b at_ none 1 = (0, at_, some (2, at_)) := by
    unfold fixS
    simp only
    rw [if_neg (by omega), if_pos (by omega)]
  unfold oS
  rw [hf]
  simp only
  split
  · unfold takeS failS; rfl
  · unfold failS; rfl
theorem oS_rest (b : List Nat) (at_ : Nat) (kd m : Int) (w : Nat) (q : List Nat) (h : b.drop at_ = w :: q) :
    oS b at_ none kd m = if ofW (w : Int) kd = true then (ofV w q m, b.length, failS b.length none (wyE w q m)) else ([], at_ + 1, some (11, at_ + 1)) := by
  have hl : at_ < b.length := by
    rcases Nat.lt_or_ge at_ b.length with h1 | h1
    · exact h1
    · rw [List.drop_eq_nil_of_le h1] at h; cases h
  have hw : b[at_]? = some w := by
    have := List.drop_eq_getElem_cons hl
    rw [h] at this
    injection this with h1 _
    rw [h1]; exact List.getElem?_eq_getElem hl
  have hq : b.drop (at_ + 1) = q := by
    have := List.drop_eq_getElem_cons hl
    rw [h] at this
    injection this with _ h2
    exact h2.symm
  unfold oS
  rw [fix_byte b at_ w hw]
  simp only
  rw [take_rest b (at_ + 1) (by omega), hq]
  split
  · rfl
  · unfold failS; rfl
theorem errS_fail (at_ : Nat) (k : Int) : (errS (failS at_ none k)).1 = k := by
  unfold failS
  by_cases h : k = 0
  · simp [h, errS]
  · simp [h, errS]
theorem gt_bad {b : List Nat} {kd : Int} {n : Nat} {e : Int} (hk : kd = 1 ∨ kd = 2) (hn : n ≤ 65536) (hp : (prs b n).1 = e) (he : e ≠ 0) : gtE b kd (n : Int) = e := by
  unfold gtE
  rw [if_neg (by omega), Int.toNat_natCast, hp, if_pos he]
theorem gt_end {b : List Nat} {kd : Int} {n : Nat} {S : List Nat} {m w : Nat} {q : List Nat} (hk : kd = 1 ∨ kd = 2) (hn : n ≤ 65536) (hp : prs b n = (0, S, m, w, q)) (hm : m = n - cnt (bit S) n) (hq : ∀ x ∈ q, x < 256) :
    (gtE b kd (n : Int) = if ofW (w : Int) kd = true then wyE w q (m : Int) else 11) ∧ (gtE b kd (n : Int) = 0 → gtV b kd (n : Int) = tog (bit S) (ofV w q (m : Int)) n ∧ (ofV w q (m : Int)).length = m) := by
  have h1 : gtE b kd (n : Int) = if ofW (w : Int) kd = true then wyE w q (m : Int) else 11 := by
    unfold gtE
    rw [if_neg (by omega), Int.toNat_natCast, hp]
    simp only [ne_eq, not_true, if_false]
    cases h : ofW (w : Int) kd <;> simp
  refine ⟨h1, fun h0 => ?_⟩
  have hv : gtV b kd (n : Int) = asm (bit S) kd (wyI w q (m : Int)) (wyT w q (m : Int)) n := by
    unfold gtV
    rw [if_pos h0, Int.toNat_natCast, hp]
  rw [h0] at h1
  cases hw : ofW (w : Int) kd with
  | false => rw [hw] at h1; simp at h1
  | true =>
    rw [hw, if_pos rfl] at h1
    obtain ⟨_, _, _, _, g5, g6⟩ := wy_back hw hq h1.symm
    rw [hv]
    rcases ofW_ways hw with ⟨rfl, hws⟩ | ⟨rfl, rfl⟩
    · have hl := (g5 rfl).1
      rw [Int.toNat_natCast] at hl
      unfold ofV
      rw [if_neg (by omega)]
      exact ⟨(tog_num _ (by rw [hl, hm])).symm, by rw [ofN_length, hl]⟩
    · have hl := (g6 rfl).1
      rw [Int.toNat_natCast] at hl
      unfold ofV
      rw [if_pos rfl]
      exact ⟨(tog_txt _ (by rw [hl, hm])).symm, by rw [ofT_length, hl]⟩
theorem tog_congr {f g : Nat → Bool} {n : Nat} (h : ∀ k, k < n → f k = g k) (o : List Vl) : tog f o n = tog g o n := by
  apply List.ext_getElem?
  intro k
  rcases Nat.lt_or_ge k n with hk | hk
  · rw [tog_at _ _ hk, tog_at _ _ hk]
    unfold tgA
    rw [h k hk, cnt_congr k fun j hj => h j (by omega)]
  · rw [List.getElem?_eq_none (by rw [tog_length]; omega), List.getElem?_eq_none (by rw [tog_length]; omega)]
def Ends (b : List Nat) (kd : Int) (n : Nat) (S : List Nat) (o : List Vl × Nat × Option (Int × Nat)) : Prop :=
  (errS o.2.2).1 = gtE b kd (n : Int) ∧ (gtE b kd (n : Int) = 0 → gtV b kd (n : Int) = tog (bit S) o.1 n ∧ o.1.length = n - cnt (bit S) n)
theorem ends_bad {b : List Nat} {kd : Int} {n : Nat} {S : List Nat} {o : List Vl × Nat × Option (Int × Nat)} {y : Int × Nat} (hk : kd = 1 ∨ kd = 2) (hn : n ≤ 65536) (hp : (prs b n).1 = y.1) (h0 : y.1 ≠ 0) (ho : o.2.2 = some y) : Ends b kd n S o := by
  have h := gt_bad hk hn hp h0
  unfold Ends
  rw [h, ho]
  exact ⟨rfl, fun e => absurd e h0⟩
theorem ends_rest {b : List Nat} {kd : Int} {n at_ : Nat} {S S' : List Nat} {m w : Nat} {q : List Nat} (hk : kd = 1 ∨ kd = 2) (hn : n ≤ 65536) (hp : prs b n = (0, S', m, w, q)) (hS : ∀ k, k < n → bit S k = bit S' k) (hm : m = n - cnt (bit S') n) (hb : ∀ x ∈ b, x < 256) (hd : b.drop at_ = w :: q) :
    Ends b kd n S (oS b at_ none kd (m : Int)) := by
  have hq : ∀ x ∈ q, x < 256 := fun x hx => hb x (List.mem_of_mem_drop (i := at_) (by rw [hd]; simp [hx]))
  obtain ⟨h1, h2⟩ := gt_end hk hn hp hm hq
  unfold Ends
  rw [oS_rest b at_ kd m w q hd]
  cases hw : ofW (w : Int) kd with
  | false =>
    rw [hw] at h1
    rw [h1]
    exact ⟨rfl, fun e => by simp at e⟩
  | true =>
    rw [hw, if_pos rfl] at h1
    rw [if_pos rfl]
    refine ⟨by simp only; rw [errS_fail, h1], fun h0 => ?_⟩
    obtain ⟨h3, h4⟩ := h2 h0
    refine ⟨by rw [h3]; exact (tog_congr hS _).symm, ?_⟩
    rw [cnt_congr n hS]
    simp only
    omega
theorem ends_0 {r : List Nat} {kd : Int} {n : Nat} (hk : kd = 1 ∨ kd = 2) (hn : n ≤ 65536) (hb : ∀ x ∈ (0 :: r), x < 256) : Ends (0 :: r) kd n (List.replicate (siz n) 0) (oS (0 :: r) 1 none kd (n : Int)) := by
  cases r with
  | nil => exact ends_bad (y := (2, 1)) hk hn rfl (by decide) (oS_short _ _ _ _ rfl)
  | cons w q =>
    refine ends_rest hk hn (prs_none w q n) (fun k _ => by rw [bit_zeros, bit_nil]) ?_ hb rfl
    rw [cnt_off fun k _ => bit_nil k]; omega
theorem ends_none {kd : Int} {n : Nat} (S : List Nat) (hk : kd = 1 ∨ kd = 2) (hn : n ≤ 65536) (m : Int) : Ends [] kd n S (oS [] 0 (some (2, 0)) kd m) :=
  ends_bad (y := (2, 0)) hk hn rfl (by decide) (oS_some _ _ _ _ _)
theorem ends_other {x : Nat} {r : List Nat} {kd : Int} {n : Nat} (S : List Nat) (hk : kd = 1 ∨ kd = 2) (hn : n ≤ 65536) (hx : 1 < x) : Ends (x :: r) kd n S ([], 1, some (4, 1)) :=
  ends_bad (y := (4, 1)) hk hn (by unfold prs; simp only; rw [if_pos hx]) (by decide) rfl
theorem ends_1 {r : List Nat} {kd : Int} {n : Nat} (hk : kd = 1 ∨ kd = 2) (hn : n ≤ 65536) (hb : ∀ x ∈ (1 :: r), x < 256) :
    Ends (1 :: r) kd n (nS (1 :: r) 1 none n).1 (oS (1 :: r) (nS (1 :: r) 1 none n).2.1 (nS (1 :: r) 1 none n).2.2 kd ((n - nC (nS (1 :: r) 1 none n).1 n : Nat) : Int)) ∧ (gtE (1 :: r) kd (n : Int) = 0 → rdE (nS (1 :: r) 1 none n).1 (n : Int) = 0) := by
  by_cases h1 : r.length < siz n
  · have ht : takeS (1 :: r) 1 none (siz n : Int) = ([], 1, some (2, 1)) := by
      unfold takeS
      simp only
      rw [if_neg (by omega), if_pos (by rw [List.length_cons]; omega)]
    have hs : nS (1 :: r) 1 none n = ([], 1, some (2, 1)) := by
      unfold nS
      rw [ht]
      simp only
      split <;> simp [failS]
    have hp : (prs (1 :: r) n).1 = 2 := by
      unfold prs
      simp only
      rw [if_neg (by omega), if_pos trivial, if_pos h1]
    rw [hs]
    exact ⟨ends_bad (y := (2, 1)) hk hn hp (by decide) (oS_some _ _ _ _ _), fun e => by rw [gt_bad hk hn hp (by decide)] at e; simp at e⟩
  · have hd : (1 :: r).drop 1 = r := rfl
    have ht : takeS (1 :: r) 1 none (siz n : Int) = (r.take (siz n), 1 + siz n, none) := by
      unfold takeS
      simp only
      rw [if_neg (by omega), if_neg (by rw [List.length_cons]; omega), hd, Int.toNat_natCast]
    have hl : (r.take (siz n)).length = siz n := by rw [List.length_take]; omega
    have hS : ∀ x ∈ r.take (siz n), x < 256 := fun x hx => hb x (List.mem_cons_of_mem _ (List.mem_of_mem_take hx))
    have hbit := lef_no (l := r.take (siz n)) (n := n) hl hS
    have hdr : (1 :: r).drop (1 + siz n) = r.drop (siz n) := by rw [Nat.add_comm]; rfl
    obtain ⟨S, hSd⟩ : ∃ S, r.take (siz n) = S := ⟨_, rfl⟩
    rw [hSd] at ht hl hS hbit
    cases hlf : lef S n with
    | true =>
      have hr : rdE S (n : Int) = 4 := by
        unfold rdE
        rw [if_neg (by omega), Int.toNat_natCast, if_neg (by omega), if_neg (by omega), if_pos hlf]
      have hs : nS (1 :: r) 1 none n = (S, 1 + siz n, some (4, 1 + siz n)) := by
        unfold nS
        rw [ht]
        simp only
        rw [hr]
        simp [failS]
      have hp : (prs (1 :: r) n).1 = 4 := by
        unfold prs
        simp only
        rw [if_neg (by omega), if_pos trivial, if_neg h1, hSd, if_pos (.inl hlf)]
      rw [hs]
      exact ⟨ends_bad (y := (4, 1 + siz n)) hk hn hp (by simp) (oS_some _ _ _ _ _), fun e => by rw [gt_bad hk hn hp (by decide)] at e; simp at e⟩
    | false =>
      have hok : OkS n S := hbit.1 hlf
      have hr : rdE S (n : Int) = 0 := rdE_of_ok hn hok
      by_cases hc : cnt (bit S) n = 0
      · have hs : nS (1 :: r) 1 none n = (S, 1 + siz n, some (4, 1 + siz n)) := by
          unfold nS
          rw [ht]
          simp only
          rw [hr, if_neg (fun e => e.2 hc)]
          simp [failS]
        have hp : (prs (1 :: r) n).1 = 4 := by
          unfold prs
          simp only
          rw [if_neg (by omega), if_pos trivial, if_neg h1, hSd, if_pos (.inr hc)]
        rw [hs]
        exact ⟨ends_bad (y := (4, 1 + siz n)) hk hn hp (by simp) (oS_some _ _ _ _ _), fun e => by rw [gt_bad hk hn hp (by decide)] at e; simp at e⟩
      · have hs : nS (1 :: r) 1 none n = (S, 1 + siz n, none) := by
          unfold nS
          rw [ht]
          simp only
          rw [hr, if_pos ⟨rfl, hc⟩]
          simp [failS]
        have hnc : nC S n = cnt (bit S) n := by unfold nC; rw [if_pos hr]
        rw [hs]
        simp only
        rw [hnc]
        refine ⟨?_, fun _ => hr⟩
        have hno : ¬ (lef S n = true ∨ cnt (bit S) n = 0) := by
          rintro (e | e)
          · rw [hlf] at e; cases e
          · exact hc e
        cases hrest : r.drop (siz n) with
        | nil =>
          have hlen : (1 :: r).length = 1 + siz n := by
            have := List.drop_eq_nil_iff.1 hrest
            rw [List.length_cons]; omega
          have hp : (prs (1 :: r) n).1 = 2 := by
            unfold prs
            simp only
            rw [if_neg (by omega), if_pos trivial, if_neg h1, hSd, if_neg hno, hrest]
          exact ends_bad (y := (2, 1 + siz n)) hk hn hp (by simp) (oS_short _ _ _ _ hlen)
        | cons w q =>
          have hp : prs (1 :: r) n = (0, S, n - cnt (bit S) n, w, q) := by
            unfold prs
            simp only
            rw [if_neg (by omega), if_pos trivial, if_neg h1, hSd, if_neg hno, hrest]
          exact ends_rest hk hn hp (fun k _ => rfl) rfl hb (by rw [hdr, hrest])
end Go.Proofs.YticanhidahkhfaaGreatDoor
