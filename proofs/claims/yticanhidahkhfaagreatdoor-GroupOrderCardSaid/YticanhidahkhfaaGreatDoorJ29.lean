import Derived.Test.YticanhidahkhfaaGreatDoorJ28
import Derived.Test.YticanhidahkhfaaGreatDoorJ20
import Derived.Test.YticanhidahkhfaaGreatDoorJ21
import Derived.Test.YticanhidahkhfaaGreatDoorJ26
import Derived.Test.YticanhidahkhfaaGreatDoorJ8
import Derived.Laws.IdiomStrings
import Derived.Laws.BytesArg
import Derived.Test.YticanhidahkhfaaGreatDoorJ9
import Derived.Test.YticanhidahkhfaaGreatDoorJ1
namespace Go.Proofs.YticanhidahkhfaaGreatDoor
open Go.RowKit
set_option linter.unusedVariables false
set_option linter.unusedSimpArgs false
set_option maxRecDepth 100000
theorem blobS_some (l : List Nat) (at_ : Nat) (y : Int × Nat) (most : Int) : blobS l at_ (some y) most = ([], at_, some y) := rfl
theorem blobS_put (l p rest : List Nat) (at_ : Nat) (most : Int) (h : l.drop at_ = vb p.length ++ p ++ rest) (hp : (p.length : Int) ≤ most) (h64 : p.length < 18446744073709551616) :
    blobS l at_ none most = (p, at_ + ((vb p.length).length + p.length), none) := by
  have hk := look_vb p.length h64 (p ++ rest)
  have hB : lookB (l.drop at_) most = ((vb p.length).length, (vb p.length).length + p.length, 0) := by
    unfold lookB
    rw [h, List.append_assoc]
    simp only [hk, if_true]
    rw [if_neg (by omega), if_neg (by simp)]
  unfold blobS
  simp only [hB, if_true]
  rw [h, List.append_assoc, List.drop_take, Nat.add_sub_cancel_left, List.drop_append_of_le_length (Nat.le_refl _), List.drop_length, List.nil_append, List.take_append_of_le_length (Nat.le_refl _), List.take_length]
theorem blobS_ok (l : List Nat) (at_ : Nat) (most : Int) (y : Int × Nat) (h : (blobS l at_ none most).2.2 = some y) : y.1 ≠ 0 := by
  unfold blobS at h
  simp only at h
  split at h
  · cases h
  · rename_i h1
    injection h with h
    subst h
    show ((lookB (l.drop at_) most).2.2 : Int) ≠ 0
    omega
theorem blobS_is {l : List Nat} (hb : ∀ x ∈ l, x < 256) {at_ : Nat} (hat : at_ ≤ l.length) {most : Int} (h : (blobS l at_ none most).2.2 = none) :
    ∃ p, blobS l at_ none most = (p, at_ + ((vb p.length).length + p.length), none) ∧ (p.length : Int) ≤ most ∧ at_ + ((vb p.length).length + p.length) ≤ l.length ∧ l.take (at_ + ((vb p.length).length + p.length)) = l.take at_ ++ (vb p.length ++ p) ∧ ∀ x ∈ p, x < 256 := by
  have hE : (lookB (l.drop at_) most).2.2 = 0 := by
    unfold blobS at h
    simp only at h
    split at h
    · rename_i h1; exact h1
    · cases h
  rcases hk : lookF 0 0 (l.drop at_) with ⟨v, m, e⟩
  have hB := hE
  unfold lookB at hB
  rw [hk] at hB
  simp only at hB
  by_cases he : e = 0
  · subst he
    rw [if_pos rfl] at hB
    by_cases hq : most < 0 ∨ most < (v : Int)
    · rw [if_pos hq] at hB; simp at hB
    · rw [if_neg hq] at hB
      by_cases hs : (l.drop at_).length - m < v
      · rw [if_pos hs] at hB; simp at hB
      · have hlk := look_is (fun x hx => hb x (List.mem_of_mem_drop hx)) hk
        have hlen := look_len (l.drop at_) 0 0 (by rw [hk])
        rw [hk] at hlen
        simp only [List.length_drop] at hlen hs
        have hL : lookB (l.drop at_) most = (m, m + v, 0) := by
          unfold lookB
          rw [hk]
          simp only [if_true]
          rw [if_neg hq, if_neg (by rw [List.length_drop]; exact hs)]
        have hm : (vb v).length = m := by rw [← hlk.1, List.length_take, List.length_drop]; omega
        have hp : (((l.drop at_).take (m + v)).drop m).length = v := by rw [List.length_drop, List.length_take, List.length_drop]; omega
        refine ⟨((l.drop at_).take (m + v)).drop m, ?_, ?_, ?_, ?_, ?_⟩
        · unfold blobS
          simp only [hL, if_true]
          rw [hp, hm]
        · rw [hp]; omega
        · rw [hp, hm]; omega
        · rw [hp, hm, List.take_add, ← hlk.1]
          congr 1
          have h1 : ((l.drop at_).take (m + v)).take m = (l.drop at_).take m := by rw [List.take_take]; congr 1; omega
          rw [← h1, List.take_append_drop]
        · intro x hx
          exact hb x (List.mem_of_mem_drop (List.mem_of_mem_take (List.mem_of_mem_drop hx)))
  · rw [if_neg he] at hB; exact absurd hB he
end Go.Proofs.YticanhidahkhfaaGreatDoor
namespace Go.Proofs.YticanhidahkhfaaGreatDoor
open Go.RowKit
set_option linter.unusedVariables false
set_option linter.unusedSimpArgs false
set_option maxRecDepth 100000
theorem first_read (z : Int) (hz : In64 z) (rest : List Nat) : vst (vb (zg z) ++ rest) 1 = ((vb (zg z)).length, none) ∧ zagI (vv (vb (zg z) ++ rest) 0 : Int) = z := by
  obtain ⟨h1, h2⟩ := vst_put [z] rest (by simpa using hz) 1 (by simp)
  rw [pl_one] at h1 h2
  simp only [List.take_succ_cons, List.take_zero, pl_one] at h1 h2
  refine ⟨h1, ?_⟩
  have e : getL (vb (zg z) ++ rest) 1 = [zagI (vv (vb (zg z) ++ rest) 0 : Int)] := by simp [getL]
  rw [e] at h2
  injection h2
end Go.Proofs.YticanhidahkhfaaGreatDoor
namespace Go.Proofs.YticanhidahkhfaaGreatDoor
open Go.RowKit
set_option linter.unusedVariables false
set_option linter.unusedSimpArgs false
set_option maxRecDepth 100000
def tdS (b : List Nat) : Nat → (Nat × Option (Int × Nat)) × Tx
  | 0 => (vst b 1, [])
  | k + 1 =>
    let v := blobS b (tdS b k).1.1 (tdS b k).1.2 65536
    (if k ≠ 0 ∧ ¬ tlt (tdS b k).2 (tb v.1) then (v.2.1, failS v.2.1 v.2.2 4) else v.2, tb v.1)
def tdL (b : List Nat) (k : Nat) : List Tx := (List.range k).map fun i => (tdS b (i + 1)).2
theorem tdL_length (b : List Nat) (k : Nat) : (tdL b k).length = k := by simp [tdL]
theorem tdL_succ (b : List Nat) (k : Nat) : tdL b (k + 1) = tdL b k ++ [(tdS b (k + 1)).2] := by simp [tdL, List.range_succ]
theorem tdL_at (b : List Nat) (n k : Nat) (h : k < n) : (tdL b n)[k]? = some (tdS b (k + 1)).2 := by simp [tdL, h]
theorem tdL_take (b : List Nat) (n k : Nat) (h : k ≤ n) : (tdL b n).take k = tdL b k := by
  unfold tdL
  rw [← List.map_take, List.take_range, Nat.min_eq_left h]
theorem tdS_some {b : List Nat} {k : Nat} {y : Int × Nat} (h : (tdS b k).1.2 = some y) : (tdS b (k + 1)).1 = (tdS b k).1 := by
  have e : (tdS b k).1 = ((tdS b k).1.1, some y) := by rw [← h]
  simp only [tdS]
  rw [h, blobS_some]
  simp only
  split
  · exact e.symm
  · exact e.symm
theorem tdS_stop {b : List Nat} {k : Nat} {y : Int × Nat} (h : (tdS b k).1.2 = some y) : ∀ j, (tdS b (k + j)).1 = (tdS b k).1
  | 0 => rfl
  | j + 1 => by
    have := tdS_stop h j
    rw [← Nat.add_assoc, tdS_some (y := y) (by rw [this]; exact h), this]
theorem tdS_before {b : List Nat} {c k : Nat} (h : (tdS b c).1.2 = none) (hk : k ≤ c) : (tdS b k).1.2 = none := by
  cases hx : (tdS b k).1.2 with
  | none => rfl
  | some y =>
    have := tdS_stop hx (c - k)
    rw [show k + (c - k) = c by omega] at this
    rw [this, hx] at h; cases h
theorem tdS_ok (b : List Nat) (k : Nat) : ∀ y, (tdS b k).1.2 = some y → y.1 ≠ 0 := by
  induction k with
  | zero => intro y h; exact vst_ok b 1 y h
  | succ k ih =>
    intro y h
    cases hx : (tdS b k).1.2 with
    | some z => rw [tdS_some hx] at h; exact ih y h
    | none =>
      simp only [tdS] at h
      rw [hx] at h
      split at h
      · cases hq : (blobS b (tdS b k).1.1 none 65536).2.2 with
        | some z =>
          rw [hq] at h
          injection h with h
          subst h
          exact blobS_ok _ _ _ _ hq
        | none =>
          rw [hq, failS_none _ _ (by omega)] at h
          injection h with h
          subst h
          simp
      · exact blobS_ok _ _ _ _ h
theorem tdS_none {b : List Nat} {k : Nat} (h : (tdS b (k + 1)).1.2 = none) :
    (blobS b (tdS b k).1.1 none 65536).2.2 = none ∧ (tdS b (k + 1)).1 = (blobS b (tdS b k).1.1 none 65536).2 ∧ (tdS b (k + 1)).2 = tb (blobS b (tdS b k).1.1 none 65536).1 ∧ (k ≠ 0 → tlt (tdS b k).2 (tdS b (k + 1)).2) := by
  have h0 := tdS_before h (Nat.le_succ k)
  simp only [tdS] at h ⊢
  rw [h0] at h ⊢
  by_cases hc : k ≠ 0 ∧ ¬ tlt (tdS b k).2 (tb (blobS b (tdS b k).1.1 none 65536).1)
  · rw [if_pos hc] at h
    simp only at h
    cases hq : (blobS b (tdS b k).1.1 none 65536).2.2 with
    | some z => rw [hq] at h; cases h
    | none => rw [hq, failS_none _ _ (by omega)] at h; cases h
  · rw [if_neg hc] at h ⊢
    exact ⟨h, rfl, rfl, fun hk => Classical.not_not.1 fun hn => hc ⟨hk, hn⟩⟩
theorem tdS_prefix {b : List Nat} (hb : ∀ x ∈ b, x < 256) (k : Nat) : (tdS b k).1.2 = none →
    (tdS b k).1.1 ≤ b.length ∧ b.take (tdS b k).1.1 = vb (vv b 0) ++ blbs (tdL b k) ∧ (∀ s ∈ tdL b k, s.length ≤ 65536) ∧ (k ≠ 0 → (tdL b k)[k - 1]? = some (tdS b k).2) := by
  induction k with
  | zero =>
    intro h
    obtain ⟨h1, h2⟩ := put_prefix b hb 1 h
    have hg1 : getL b 1 = [zagI (vv b 0 : Int)] := by simp [getL]
    rw [hg1, pl_one, zg_zagI] at h2
    exact ⟨h1, by rw [show (tdS b 0).1 = vst b 1 from rfl, ← h2]; simp [tdL, blbs], by simp [tdL], fun h => absurd rfl h⟩
  | succ k ih =>
    intro h
    obtain ⟨i1, i2, i3, _⟩ := ih (tdS_before h (Nat.le_succ k))
    obtain ⟨e1, e2, e3, _⟩ := tdS_none h
    obtain ⟨p, p1, p2, p3, p4, p5⟩ := blobS_is hb i1 e1
    rw [p1] at e2 e3
    simp only at e2 e3
    have hl : (tb p).length = p.length := by simp [tb]
    rw [e2]
    simp only
    refine ⟨p3, ?_, ?_, fun _ => by rw [Nat.add_sub_cancel, tdL_at b (k + 1) k (by omega)]⟩
    · rw [p4, i2, tdL_succ, blbs_append, blbs_one, e3, List.append_assoc]
      unfold blbT
      rw [hl, nb_tb p5]
    · intro s hs
      rw [tdL_succ] at hs
      rcases List.mem_append.1 hs with hs | hs
      · exact i3 s hs
      · rw [List.mem_singleton] at hs
        subst hs
        rw [e3, hl]; omega
theorem tdL_rise {b : List Nat} (c : Nat) (h : (tdS b c).1.2 = none) : RiseT (tdL b c) := by
  have key : ∀ k, k ≤ c → RiseT (tdL b k) ∧ ∀ z ∈ tdL b k, z = (tdS b k).2 ∨ tlt z (tdS b k).2 := by
    intro k
    induction k with
    | zero => intro _; exact ⟨by simp [tdL, RiseT], by simp [tdL]⟩
    | succ k ih =>
      intro hk
      obtain ⟨i1, i2⟩ := ih (by omega)
      obtain ⟨_, _, _, e⟩ := tdS_none (tdS_before h hk)
      have hlt : ∀ z ∈ tdL b k, tlt z (tdS b (k + 1)).2 := by
        intro z hz
        have h0 : k ≠ 0 := by intro h0; subst h0; simp [tdL] at hz
        rcases i2 z hz with rfl | h1
        · exact e h0
        · exact tlt_trans h1 (e h0)
      rw [tdL_succ]
      refine ⟨?_, ?_⟩
      · unfold RiseT
        rw [List.pairwise_append]
        refine ⟨i1, by simp, ?_⟩
        intro x hx y hy
        rw [List.mem_singleton] at hy
        subst hy
        exact hlt x hx
      · intro z hz
        rcases List.mem_append.1 hz with hz | hz
        · exact .inr (hlt z hz)
        · rw [List.mem_singleton] at hz; exact .inl hz
  exact (key c (Nat.le_refl _)).1
def rdt (b : List Nat) (n : Nat) : (Nat × Option (Int × Nat)) × List Tx :=
  if n < vv b 0 then (((vst b 1).1, failS (vst b 1).1 (vst b 1).2 5), []) else ((tdS b (vv b 0)).1, tdL b (vv b 0))
def txS (b : List Nat) (n : Nat) : List Nat × Nat × Option (Int × Nat) := rpS b (rdt b n).1.1 (rdt b n).1.2 n (rdt b n).2.length
def txE (b : List Nat) (k : Int) : Int := if k < 0 ∨ 65536 < k then 1 else (endS b (txS b k.toNat).2.1 (txS b k.toNat).2.2).1
def txG (b : List Nat) (k : Int) : List Tx := if txE b k = 0 then (txS b k.toNat).1.map (fun a => ((rdt b k.toNat).2[a]?).getD []) else []
theorem txE_bad {b : List Nat} {k : Int} (h : k < 0 ∨ 65536 < k) : txE b k = 1 ∧ txG b k = [] := by
  have hE : txE b k = 1 := by unfold txE; rw [if_pos h]
  exact ⟨hE, by unfold txG; rw [if_neg (by omega)]⟩
theorem txG_length (b : List Nat) (k : Int) : (txG b k).length ≤ 65536 := by
  unfold txG
  split
  · rw [List.length_map]; exact (unpackS_all _ _ _).2
  · simp
theorem txE_some {b : List Nat} {N : Nat} {y : Int × Nat} (hN : N ≤ 65536) (hy : y.1 ≠ 0) (h : (rdt b N).1.2 = some y) : txE b (N : Int) = y.1 := by
  unfold txE
  rw [if_neg (by omega), Int.toNat_natCast]
  unfold txS
  rw [h, rp_some, endS_some _ _ _ hy]
theorem txE_var {b : List Nat} {N : Nat} {y : Int × Nat} (hN : N ≤ 65536) (h : (vst b 1).2 = some y) : txE b (N : Int) = y.1 := by
  refine txE_some hN (vst_ok b 1 y h) ?_
  unfold rdt
  split
  · rw [h]; rfl
  · have := tdS_stop (b := b) (k := 0) (y := y) h (vv b 0)
    rw [Nat.zero_add] at this
    rw [this]; exact h
theorem txE_cnt {b : List Nat} {N : Nat} (hN : N ≤ 65536) (h : (vst b 1).2 = none) (hc : N < vv b 0) : txE b (N : Int) = 5 := by
  refine txE_some (y := (5, (vst b 1).1)) hN (by simp) ?_
  unfold rdt
  rw [if_pos hc, h]; rfl
theorem txE_list {b : List Nat} {N k : Nat} {y : Int × Nat} (hN : N ≤ 65536) (hc : ¬ N < vv b 0) (hk : k ≤ vv b 0) (h : (tdS b k).1.2 = some y) : txE b (N : Int) = y.1 := by
  refine txE_some hN (tdS_ok b k y h) ?_
  unfold rdt
  rw [if_neg hc]
  have := tdS_stop h (vv b 0 - k)
  rw [show k + (vv b 0 - k) = vv b 0 by omega] at this
  simp only
  rw [this]; exact h
theorem txE_rest {b : List Nat} (hb : ∀ x ∈ b, x < 256) {N : Nat} (hN : N ≤ 65536) (hc : ¬ N < vv b 0) (h : (tdS b (vv b 0)).1.2 = none) : txE b (N : Int) = rpE b (tdS b (vv b 0)).1.1 N (vv b 0) := by
  obtain ⟨e1, _⟩ := tdS_prefix hb _ h
  unfold txE
  rw [if_neg (by omega), Int.toNat_natCast]
  unfold txS rdt
  rw [if_neg hc]
  simp only
  rw [h, tdL_length]
  exact rp_end b _ N _ e1
theorem txG_rest {b : List Nat} (hb : ∀ x ∈ b, x < 256) {N : Nat} (hN : N ≤ 65536) (hc : ¬ N < vv b 0) (h : (tdS b (vv b 0)).1.2 = none) (hE : txE b (N : Int) = 0) :
    b[(tdS b (vv b 0)).1.1]? = some (blen (vv b 0 - 1)) ∧ unpackE (b.drop ((tdS b (vv b 0)).1.1 + 1)) (N : Int) (blen (vv b 0 - 1) : Int) = 0 ∧ whE (unpackS (b.drop ((tdS b (vv b 0)).1.1 + 1)) (N : Int) (blen (vv b 0 - 1) : Int)) (vv b 0) = 0 ∧
      txG b (N : Int) = (unpackS (b.drop ((tdS b (vv b 0)).1.1 + 1)) (N : Int) (blen (vv b 0 - 1) : Int)).map (fun a => ((tdL b (vv b 0))[a]?).getD []) := by
  have hE2 := hE
  rw [txE_rest hb hN hc h] at hE2
  obtain ⟨h1, h2, h3, h4⟩ := rp_take _ _ _ _ hE2
  refine ⟨h1, h2, h3, ?_⟩
  unfold txG
  rw [if_pos hE, Int.toNat_natCast]
  unfold txS rdt
  rw [if_neg hc]
  simp only
  rw [h, tdL_length, h4]
theorem txE_zero {b : List Nat} {N : Nat} (hN : N ≤ 65536) (hE : txE b (N : Int) = 0) : (vst b 1).2 = none ∧ ¬ N < vv b 0 ∧ (tdS b (vv b 0)).1.2 = none := by
  have h1 : (vst b 1).2 = none := by
    cases h : (vst b 1).2 with
    | none => rfl
    | some y => rw [txE_var hN h] at hE; exact absurd hE (vst_ok b 1 y h)
  have h2 : ¬ N < vv b 0 := fun h => by rw [txE_cnt hN h1 h] at hE; omega
  refine ⟨h1, h2, ?_⟩
  cases h : (tdS b (vv b 0)).1.2 with
  | none => rfl
  | some y => rw [txE_list hN h2 (Nat.le_refl _) h] at hE; exact absurd hE (tdS_ok b _ y h)
theorem count_put (c : Nat) (hc : c < 18446744073709551616) (rest : List Nat) : vst (vb c ++ rest) 1 = ((vb c).length, none) ∧ vv (vb c ++ rest) 0 = c := by
  have h := vst_step (l := vb c ++ rest) (k := 0) (v := c) (m := (vb c).length) rfl (look_vb c hc rest)
  exact ⟨by rw [h.1]; simp [vst], h.2⟩
theorem td_put (L : List Tx) (rest : List Nat) (hr : RiseT L) (hl : ∀ s ∈ L, s.length ≤ 65536) (hn : L.length ≤ 65536) : ∀ k, k ≤ L.length →
    (tdS (hdT L ++ rest) k).1 = ((vb L.length ++ blbs (L.take k)).length, none) ∧ ∀ j, k = j + 1 → L[j]? = some (tdS (hdT L ++ rest) k).2 := by
  obtain ⟨b, hb⟩ : ∃ b, b = hdT L ++ rest := ⟨_, rfl⟩
  rw [← hb]
  have hb2 : b = vb L.length ++ (blbs L ++ rest) := by rw [hb]; unfold hdT; rw [List.append_assoc]
  intro k
  induction k with
  | zero =>
    intro _
    refine ⟨?_, fun j h => absurd h (by omega)⟩
    show vst b 1 = _
    rw [hb2, (count_put L.length (by omega) _).1]
    simp [blbs]
  | succ k ih =>
    intro hk
    obtain ⟨i1, i2⟩ := ih (by omega)
    have hz : L[k]? = some L[k] := List.getElem?_eq_getElem (by omega)
    have hzl := hl _ (List.getElem_mem (show k < L.length by omega))
    have hdrop : b.drop (vb L.length ++ blbs (L.take k)).length = vb (nb L[k]).length ++ nb L[k] ++ (blbs (L.drop (k + 1)) ++ rest) := by
      have hs : L = L.take k ++ (L[k] :: L.drop (k + 1)) := by rw [← List.drop_eq_getElem_cons (by omega), List.take_append_drop]
      have hs2 : b = (vb L.length ++ blbs (L.take k)) ++ (blbT L[k] ++ (blbs (L.drop (k + 1)) ++ rest)) := by
        rw [hb2]
        conv => lhs; rw [show blbs L = blbs (L.take k) ++ (blbT L[k] ++ blbs (L.drop (k + 1))) by rw [← blbs_cons, ← blbs_append, ← hs]]
        simp only [List.append_assoc]
      rw [hs2, List.drop_append_of_le_length (Nat.le_refl _), List.drop_length, List.nil_append]
      unfold blbT
      rw [nb_length]
      try simp only [List.append_assoc]
    have hbl := blobS_put b (nb L[k]) _ _ 65536 hdrop (by rw [nb_length]; omega) (by rw [nb_length]; omega)
    rw [nb_length] at hbl
    have hcond : ¬ (k ≠ 0 ∧ ¬ tlt (tdS b k).2 (tb (nb L[k]))) := by
      rintro ⟨h0, hn0⟩
      obtain ⟨j, hj⟩ : ∃ j, k = j + 1 := ⟨k - 1, by omega⟩
      have hp := i2 j hj
      obtain ⟨a1, a2⟩ := List.getElem?_eq_some_iff.1 hp
      have := List.pairwise_iff_getElem.1 hr j k a1 (by omega) (by omega)
      rw [a2] at this
      rw [tb_nb] at hn0
      exact hn0 this
    have hS : tdS b (k + 1) = ((((vb L.length ++ blbs (L.take k)).length + ((vb L[k].length).length + L[k].length)), none), L[k]) := by
      conv => lhs; unfold tdS
      simp only
      rw [i1]
      simp only
      rw [hbl]
      simp only
      rw [if_neg hcond, tb_nb]
    rw [hS]
    refine ⟨?_, fun j hj => ?_⟩
    · simp only
      congr 1
      rw [blbs_step hz, List.length_append, List.length_append, List.length_append]
      unfold blbT
      rw [List.length_append, nb_length]
      omega
    · obtain rfl : j = k := by omega
      exact hz
theorem tx_get (l : List Tx) (hl : ∀ s ∈ l, s.length ≤ 65536) (hn : l.length ≤ 65536) : txE (txf l) (l.length : Int) = 0 ∧ txG (txf l) (l.length : Int) = l := by
  have hb := txf_byte l hn hl
  have hLl := lstT_length l
  obtain ⟨P, hP⟩ : ∃ P, P = plcT l := ⟨_, rfl⟩
  obtain ⟨K, hK⟩ : ∃ K, K = wd P := ⟨_, rfl⟩
  have hPl : P.length = l.length := by rw [hP, plcT_length]
  have hd : txf l = hdT (lstT l) ++ (K :: packB K P) := by unfold txf; rw [hK, hP, List.append_assoc]; rfl
  have hKc : blen ((lstT l).length - 1) = K := by rw [hK, hP, wd_plcT]
  have hK16 : K ≤ 16 := by rw [hK, hP]; exact wd_plcT_le l hn
  have hput := td_put (lstT l) (K :: packB K P) (lstT_rise l) (lstT_long hl) (by omega)
  rw [← hd] at hput
  have g0 : vv (txf l) 0 = (lstT l).length := by
    rw [hd]
    unfold hdT
    rw [List.append_assoc]
    exact (count_put _ (by omega) _).2
  obtain ⟨q1, q2⟩ := hput (lstT l).length (Nat.le_refl _)
  rw [List.take_of_length_le (Nat.le_refl _)] at q1
  have g1 : (tdS (txf l) (vv (txf l) 0)).1 = ((hdT (lstT l)).length, none) := by rw [g0, q1]; rfl
  have g3 : tdL (txf l) (lstT l).length = lstT l := by
    apply List.ext_getElem?
    intro k
    by_cases hk : k < (lstT l).length
    · rw [tdL_at _ _ k hk, (hput (k + 1) (by omega)).2 k rfl]
    · rw [List.getElem?_eq_none (by rw [tdL_length]; omega), List.getElem?_eq_none (by omega)]
  have hc : ¬ l.length < vv (txf l) 0 := by rw [g0]; omega
  have hat : (txf l)[(hdT (lstT l)).length]? = some K := by rw [hd]; simp
  have hdrop : (txf l).drop ((hdT (lstT l)).length + 1) = packB K P := by rw [hd]; simp
  obtain ⟨h3, h4⟩ := unpackE_pack P K (by omega) (by omega) (by rw [hK]; exact Nat.le_refl _)
  rw [hPl] at h3 h4
  have hw : whE P (lstT l).length = 0 := whE_of (by rw [hP]; exact plcT_lt l) (by rw [hP]; exact plcT_all l)
  have hE : txE (txf l) (l.length : Int) = 0 := by
    rw [txE_rest hb hn hc (by rw [g1]), g1, g0]
    unfold rpE
    rw [hat]
    simp only
    rw [if_pos hKc.symm, hdrop, h3, if_pos rfl, h4, hw]
    rfl
  refine ⟨hE, ?_⟩
  obtain ⟨_, _, _, hG⟩ := txG_rest hb hn hc (by rw [g1]) hE
  rw [hG, g1, g0, g3, hKc, hdrop, h4, hP]
  unfold plcT
  rw [List.map_map]
  conv => rhs; rw [← List.map_id l]
  refine List.map_congr_left fun z hz => ?_
  show ((lstT l)[whT (lstT l) z]?).getD [] = z
  rw [(whT_mem (lstT_rise l) ((lstT_mem l z).2 hz)).1]
  rfl
theorem get_tx (b : List Nat) (hb : ∀ x ∈ b, x < 256) (k : Int) (h : txE b k = 0) : 0 ≤ k ∧ k ≤ 65536 ∧ txf (txG b k) = b ∧ (txG b k).length = k.toNat ∧ ∀ s ∈ txG b k, s.length ≤ 65536 := by
  have hk : 0 ≤ k ∧ k ≤ 65536 := by
    by_cases hk : k < 0 ∨ 65536 < k
    · rw [(txE_bad hk).1] at h; omega
    · omega
  obtain ⟨N, rfl⟩ : ∃ N : Nat, k = (N : Int) := ⟨k.toNat, by omega⟩
  have hN : N ≤ 65536 := by omega
  obtain ⟨z1, z2, z3⟩ := txE_zero hN h
  obtain ⟨h1, h2, h3, hG⟩ := txG_rest hb hN z2 z3 h
  have hri := tdL_rise _ z3
  obtain ⟨p01, p02, p03, _⟩ := tdS_prefix hb _ z3
  obtain ⟨c, hc⟩ : ∃ c, c = vv b 0 := ⟨_, rfl⟩
  rw [← hc] at h1 h2 h3 hG hri z2 z3 p01 p02 p03
  obtain ⟨L, hL⟩ : ∃ L, L = tdL b c := ⟨_, rfl⟩
  have hLc : L.length = c := by rw [hL, tdL_length]
  rw [← hL] at hG hri p02 p03
  obtain ⟨at_, hat⟩ : ∃ a, a = (tdS b c).1.1 := ⟨_, rfl⟩
  rw [← hat] at h1 h2 h3 hG p01 p02
  obtain ⟨p1, p2, p3, p4, _⟩ := pack_again (b.drop (at_ + 1)) (N : Int) (blen (c - 1) : Int) (fun x hx => hb x (List.mem_of_mem_drop hx)) h2
  obtain ⟨P, hP⟩ : ∃ P, P = unpackS (b.drop (at_ + 1)) (N : Int) (blen (c - 1) : Int) := ⟨_, rfl⟩
  rw [← hP] at h3 hG p1 p2 p3 p4
  obtain ⟨w1, w2⟩ := whE_zero h3
  have hget : ∀ a, a < c → ∃ z, L[a]? = some z ∧ (L[a]?).getD [] = z := fun a ha => by
    have : L[a]? = some L[a] := List.getElem?_eq_getElem (by omega)
    exact ⟨_, this, by rw [this]; rfl⟩
  obtain ⟨G, hGe⟩ : ∃ G, G = P.map (fun a => (L[a]?).getD []) := ⟨_, rfl⟩
  rw [← hGe] at hG
  have hls : lstT G = L := by
    refine riseT_ext _ _ (lstT_rise G) hri fun x => ?_
    rw [lstT_mem, hGe, List.mem_map]
    constructor
    · rintro ⟨a, ha, rfl⟩
      obtain ⟨z, e1, e2⟩ := hget a (w1 a ha)
      rw [e2]; exact List.mem_of_getElem? e1
    · intro hx
      obtain ⟨i, hi, rfl⟩ := List.mem_iff_getElem.1 hx
      refine ⟨i, w2 i (by omega), ?_⟩
      rw [List.getElem?_eq_getElem hi]; rfl
  have hpl : plcT G = P := by
    unfold plcT
    rw [hls, hGe, List.map_map]
    conv => rhs; rw [← List.map_id P]
    refine List.map_congr_left fun a ha => ?_
    obtain ⟨z, e1, e2⟩ := hget a (w1 a ha)
    show whT L ((L[a]?).getD []) = a
    rw [e2]; exact whT_is hri e1
  have hwd : wd P = blen (c - 1) := by rw [← hpl, wd_plcT, hls, hLc]
  have hhd2 : hdT L = b.take at_ := by rw [p02]; unfold hdT; rw [hLc, hc]
  have hpk : packB (blen (c - 1)) P = b.drop (at_ + 1) := by
    rw [← p2]; unfold packS; rw [if_pos p1]; rfl
  refine ⟨hk.1, hk.2, ?_, by rw [hG, hGe, List.length_map, p3], fun z hz => ?_⟩
  · rw [hG]
    unfold txf
    rw [hls, hpl, hwd, hhd2, hpk, List.append_assoc]
    obtain ⟨hl, hv⟩ := List.getElem?_eq_some_iff.1 h1
    rw [List.singleton_append, ← hv, ← List.drop_eq_getElem_cons hl, List.take_append_drop]
  · rw [hG, hGe] at hz
    obtain ⟨a, ha, rfl⟩ := List.mem_map.1 hz
    obtain ⟨z, e1, e2⟩ := hget a (w1 a ha)
    rw [e2]; exact p03 z (List.mem_of_getElem? e1)
end Go.Proofs.YticanhidahkhfaaGreatDoor
namespace Go.Proofs.YticanhidahkhfaaGreatDoor
open Go.RowKit
set_option linter.unusedVariables false
set_option linter.unusedSimpArgs false
set_option maxRecDepth 100000
theorem tb_length (p : List Nat) : (tb p).length = p.length := by simp [tb]
theorem text_of {w : World} {B n : Nat} {A : Option Addr} {p : List Nat} (c : Nat) (hr : Reads w B 1 A n (bs p)) (hb : ∀ x ∈ p, x < 256) :
    (convert 48 9 (.slice A n c)).run Tryz.prog w = .ok (.string ⟨(tb p).toArray⟩) w := by
  have e1 : p.length = n := by have := hr.1; rw [bs_length] at this; omega
  cases A with
  | none =>
    have hn : n = 0 := by
      rcases Nat.eq_zero_or_pos n with h0 | h0
      · exact h0
      · obtain ⟨ad, h, _⟩ := hr.2 h0
        cases h
    subst hn
    obtain rfl : p = [] := List.eq_nil_of_length_eq_zero e1
    exact run_convert_bytes_nil w 48 5 Tryz.underlying48 Tryz.underlying5 0 c 9 Tryz.underlying9
  | some ad =>
    have h := run_convert_bytes_back (P := Tryz.prog) w 48 9 5 ad c (tb p) Tryz.underlying48 Tryz.underlying5 Tryz.underlying9 (fun j hj => by
      have hjp : j < p.length := by rw [tb_length] at hj; exact hj
      obtain ⟨ad', e, _, hc⟩ := hr.2 (by omega)
      injection e with e
      subst e
      refine hc j _ ?_
      have hx := hb p[j] (List.getElem_mem hjp)
      have e : (tb p)[j] = UInt8.ofNat p[j] := by simp [tb]
      rw [e, UInt8.toNat_ofNat_of_lt' hx]
      unfold bs
      rw [List.getElem?_map, List.getElem?_eq_getElem hjp]
      rfl)
    rw [tb_length, e1] at h
    exact h
end Go.Proofs.YticanhidahkhfaaGreatDoor
namespace Go.Proofs.YticanhidahkhfaaGreatDoor
open Go.RowKit
set_option linter.unusedVariables false
set_option linter.unusedSimpArgs false
theorem vv_err {b : List Nat} {y : Int × Nat} (h : (vst b 1).2 = some y) : vv b 0 = 0 := by
  have h2 : (varS b 0 none).2.2 = some y := h
  show (varS b 0 none).1 = 0
  unfold varS at h2 ⊢
  simp only at h2 ⊢
  split
  · rename_i h3; rw [if_pos h3] at h2; cases h2
  · rfl
end Go.Proofs.YticanhidahkhfaaGreatDoor
