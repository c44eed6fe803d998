/- Plain facts on reading the plain form: the numbers, the reader's place and its error, number by number. -/
import Derived.Test.YtppeagjklndidaaGreatDoorJ10
import Derived.Test.YtppeagjklndidaaGreatDoorJ23
import Derived.Test.YtppeagjklndidaaGreatDoorJ24
namespace Go.Proofs.YtppeagjklndidaaGreatDoor
open Go.RowKit
set_option linter.unusedVariables false
set_option linter.unusedSimpArgs false
set_option maxRecDepth 100000

/-- The reader's place and error behind so many short numbers. -/
def vst (l : List Nat) : Nat → Nat × Option (Int × Nat)
  | 0 => (0, none)
  | k + 1 => (varS l (vst l k).1 (vst l k).2).2
/-- The short number with that index. -/
def vv (l : List Nat) (k : Nat) : Nat := (varS l (vst l k).1 (vst l k).2).1
def getL (l : List Nat) (n : Nat) : List Int := (List.range n).map fun k => zagI (vv l k : Int)
/-- The error's number of reading. -/
def getE (l : List Nat) (k : Int) : Int := if k < 0 ∨ 65536 < k then 1 else (endS l (vst l k.toNat).1 (vst l k.toNat).2).1
def getS (l : List Nat) (k : Int) : List Int := if getE l k = 0 then getL l k.toNat else []
theorem getL_length (l : List Nat) (n : Nat) : (getL l n).length = n := by simp [getL]
theorem getL_succ (l : List Nat) (n : Nat) : getL l (n + 1) = getL l n ++ [zagI (vv l n : Int)] := by simp [getL, List.range_succ]
theorem getL_at (l : List Nat) (n k : Nat) (h : k < n) : (getL l n)[k]? = some (zagI (vv l k : Int)) := by simp [getL, h]
theorem getL_take (l : List Nat) (n k : Nat) (h : k ≤ n) : (getL l n).take k = getL l k := by
  induction n with
  | zero => obtain rfl : k = 0 := by omega
            simp [getL]
  | succ n ih =>
    rcases Nat.lt_or_ge k (n + 1) with h1 | h1
    · rw [getL_succ, List.take_append_of_le_length (by rw [getL_length]; omega), ih (by omega)]
    · obtain rfl : k = n + 1 := by omega
      rw [List.take_of_length_le (by rw [getL_length]; omega)]
theorem vst_some {l : List Nat} {k : Nat} {y : Int × Nat} (h : (vst l k).2 = some y) : vst l (k + 1) = vst l k := by
  show (varS l (vst l k).1 (vst l k).2).2 = _
  rw [h]
  show ((vst l k).1, some y) = _
  rw [← h]
theorem vst_stop {l : List Nat} {k : Nat} {y : Int × Nat} (h : (vst l k).2 = some y) : ∀ j, vst l (k + j) = vst l k
  | 0 => rfl
  | j + 1 => by
    have := vst_stop h j
    rw [← Nat.add_assoc, vst_some (y := y) (by rw [this]; exact h), this]
theorem vst_ok (l : List Nat) (k : Nat) : ∀ y, (vst l k).2 = some y → y.1 ≠ 0 := by
  induction k with
  | zero => intro y h; cases h
  | succ k ih =>
    intro y h
    cases hx : (vst l k).2 with
    | some z => rw [vst_some hx] at h; exact ih y h
    | none =>
      change (varS l (vst l k).1 (vst l k).2).2.2 = some y at h
      rw [hx] at h
      unfold varS at h
      simp only at h
      split at h
      · cases h
      · rename_i h1
        injection h with h
        subst h
        show ((lookF 0 0 (l.drop (vst l k).1)).2.2 : Int) ≠ 0
        omega
theorem endS_some (l : List Nat) (at_ : Nat) (y : Int × Nat) (h : y.1 ≠ 0) : (endS l at_ (some y)).1 = y.1 := by
  unfold endS errS
  rw [if_neg (by simp [h])]
  rfl
theorem endS_none (l : List Nat) (at_ : Nat) : (endS l at_ none).1 = if at_ < l.length then 3 else 0 := by
  unfold endS errS
  by_cases h : at_ < l.length
  · rw [if_pos ⟨rfl, h⟩, if_pos h]
  · rw [if_neg (fun e => h e.2), if_neg h]; rfl
/-- A step that goes well. -/
theorem vst_step {l : List Nat} {k v m : Nat} (h : (vst l k).2 = none) (hl : lookF 0 0 (l.drop (vst l k).1) = (v, m, 0)) : vst l (k + 1) = ((vst l k).1 + m, none) ∧ vv l k = v := by
  have e : varS l (vst l k).1 (vst l k).2 = (v, (vst l k).1 + m, none) := by
    rw [h]
    unfold varS
    simp only [hl, if_true]
  exact ⟨by show (varS l (vst l k).1 (vst l k).2).2 = _; rw [e], by unfold vv; rw [e]⟩
theorem vst_none {l : List Nat} {k : Nat} (h : (vst l (k + 1)).2 = none) : (vst l k).2 = none ∧ ∃ v m, lookF 0 0 (l.drop (vst l k).1) = (v, m, 0) := by
  cases hx : (vst l k).2 with
  | some y => rw [vst_some hx, hx] at h; cases h
  | none =>
    refine ⟨rfl, ?_⟩
    change (varS l (vst l k).1 (vst l k).2).2.2 = none at h
    rw [hx] at h
    unfold varS at h
    simp only at h
    split at h
    · rename_i h1
      exact ⟨(lookF 0 0 (l.drop (vst l k).1)).1, (lookF 0 0 (l.drop (vst l k).1)).2.1, Prod.ext rfl (Prod.ext rfl h1)⟩
    · cases h
theorem vv_lt {l : List Nat} (hb : ∀ b ∈ l, b < 256) (k : Nat) : vv l k < 18446744073709551616 := by
  unfold vv
  cases hx : (vst l k).2 with
  | some y => show 0 < _; omega
  | none =>
    unfold varS
    simp only
    split
    · rename_i h1
      rcases hl : lookF 0 0 (l.drop (vst l k).1) with ⟨v, m, e⟩
      rw [hl] at h1
      simp only at h1
      subst h1
      exact (look_is (fun b h => hb b (List.mem_of_mem_drop h)) hl).2
    · show 0 < _; omega
theorem getS_length (b : List Nat) (k : Int) : (getS b k).length ≤ 65536 := by
  unfold getS
  split
  · rename_i h
    rw [getL_length]
    unfold getE at h
    by_cases hk : k < 0 ∨ 65536 < k
    · rw [if_pos hk] at h; omega
    · omega
  · simp
/-- What is put is read as it was, whatever stands behind it. -/
theorem vst_put (zl : List Int) (rest : List Nat) (hz : ∀ z ∈ zl, In64 z) : ∀ k, k ≤ zl.length → vst (pl zl ++ rest) k = ((pl (zl.take k)).length, none) ∧ getL (pl zl ++ rest) k = zl.take k := by
  intro k
  induction k with
  | zero => intro _; exact ⟨by simp [vst, pl], by simp [getL]⟩
  | succ k ih =>
    intro hk
    obtain ⟨e1, e2⟩ := ih (by omega)
    have hat : zl[k]? = some zl[k] := List.getElem?_eq_getElem (by omega)
    have hin := hz _ (List.getElem_mem (show k < zl.length by omega))
    have hsplit : pl zl = pl (zl.take k) ++ (vb (zg zl[k]) ++ pl (zl.drop (k + 1))) := by
      rw [← List.append_assoc, ← pl_step hat, ← pl_append, List.take_append_drop]
    have hd : (pl zl ++ rest).drop (pl (zl.take k)).length = vb (zg zl[k]) ++ (pl (zl.drop (k + 1)) ++ rest) := by
      rw [hsplit, List.append_assoc, List.drop_append_of_le_length (Nat.le_refl _), List.drop_length, List.nil_append, List.append_assoc]
    have hl := look_vb (zg zl[k]) (zg_int hin).2 (pl (zl.drop (k + 1)) ++ rest)
    rw [← hd] at hl
    have hs := vst_step (l := pl zl ++ rest) (k := k) (by rw [e1]) (by rw [e1]; exact hl)
    refine ⟨?_, ?_⟩
    · rw [hs.1, e1, pl_step hat, List.length_append]
    · rw [getL_succ, e2, hs.2, zagI_zg hin, take_snoc hat]
theorem get_put (zl : List Int) (hz : ∀ z ∈ zl, In64 z) (hn : zl.length ≤ 65536) : getE (pl zl) (zl.length : Int) = 0 ∧ getS (pl zl) (zl.length : Int) = zl := by
  obtain ⟨e1, e2⟩ := vst_put zl [] hz zl.length (Nat.le_refl _)
  rw [List.append_nil, List.take_length] at e1 e2
  have hE : getE (pl zl) (zl.length : Int) = 0 := by
    unfold getE
    rw [if_neg (by omega), Int.toNat_natCast, e1]
    simp only
    rw [endS_none, if_neg (by omega)]
  exact ⟨hE, by unfold getS; rw [if_pos hE, Int.toNat_natCast, e2]⟩
theorem get_long (zl : List Int) (x : Nat) (hz : ∀ z ∈ zl, In64 z) (hn : zl.length ≤ 65536) : getE (pl zl ++ [x]) (zl.length : Int) = 3 ∧ getS (pl zl ++ [x]) (zl.length : Int) = [] := by
  obtain ⟨e1, e2⟩ := vst_put zl [x] hz zl.length (Nat.le_refl _)
  rw [List.take_length] at e1 e2
  have hE : getE (pl zl ++ [x]) (zl.length : Int) = 3 := by
    unfold getE
    rw [if_neg (by omega), Int.toNat_natCast, e1]
    simp only
    rw [endS_none, if_pos (by rw [List.length_append, List.length_singleton]; omega)]
  exact ⟨hE, by unfold getS; rw [if_neg (by omega)]⟩
theorem get_short (zl : List Int) (hz : ∀ z ∈ zl, In64 z) (hn : zl.length ≤ 65536) (h0 : 0 < (pl zl).length) : getE ((pl zl).take ((pl zl).length - 1)) (zl.length : Int) = 2 ∧ getS ((pl zl).take ((pl zl).length - 1)) (zl.length : Int) = [] := by
  have h1 : 0 < zl.length := by
    rcases Nat.eq_zero_or_pos zl.length with h | h
    · rw [List.eq_nil_of_length_eq_zero h] at h0; simp [pl] at h0
    · exact h
  obtain ⟨m, hm⟩ : ∃ m, zl.length = m + 1 := ⟨zl.length - 1, by omega⟩
  have hat : zl[m]? = some zl[m] := List.getElem?_eq_getElem (by omega)
  have hin := hz _ (List.getElem_mem (show m < zl.length by omega))
  have hvl := vb_length (zg zl[m])
  have hsplit : pl zl = pl (zl.take m) ++ vb (zg zl[m]) := by rw [← pl_step hat, List.take_of_length_le (by omega)]
  have hcut : (pl zl).take ((pl zl).length - 1) = pl (zl.take m) ++ (vb (zg zl[m])).take ((vb (zg zl[m])).length - 1) := by
    rw [hsplit, List.take_append, List.length_append]
    congr 1
    · rw [List.take_of_length_le (by omega)]
    · congr 1; omega
  have hml : (zl.take m).length = m := by rw [List.length_take]; omega
  obtain ⟨e1, _⟩ := vst_put (zl.take m) ((vb (zg zl[m])).take ((vb (zg zl[m])).length - 1)) (fun z h => hz z (List.mem_of_mem_take h)) m (by omega)
  rw [List.take_take, Nat.min_self, ← hcut] at e1
  have hd : ((pl zl).take ((pl zl).length - 1)).drop (pl (zl.take m)).length = (vb (zg zl[m])).take ((vb (zg zl[m])).length - 1) := by
    rw [hcut, List.drop_append_of_le_length (Nat.le_refl _), List.drop_length, List.nil_append]
  have hlk := short_vb (zg zl[m]) ((vb (zg zl[m])).length - 1) (by omega)
  have e2 : (vst ((pl zl).take ((pl zl).length - 1)) (m + 1)).2 = some (2, (pl (zl.take m)).length) := by
    show (varS _ _ _).2.2 = _
    rw [e1]
    unfold varS
    simp only [hd, hlk]
    rfl
  have hE : getE ((pl zl).take ((pl zl).length - 1)) (zl.length : Int) = 2 := by
    unfold getE
    rw [if_neg (by omega), Int.toNat_natCast, hm, e2, endS_some _ _ _ (by simp)]
  exact ⟨hE, by unfold getS; rw [if_neg (by omega)]⟩
/-- What is read is put as it was. -/
theorem put_prefix (b : List Nat) (hb : ∀ x ∈ b, x < 256) (k : Nat) : (vst b k).2 = none → (vst b k).1 ≤ b.length ∧ pl (getL b k) = b.take (vst b k).1 := by
  induction k with
  | zero => intro _; exact ⟨Nat.zero_le _, by simp [getL, pl, vst]⟩
  | succ k ih =>
    intro h
    obtain ⟨h0, v, m, hl⟩ := vst_none h
    obtain ⟨e1, e2⟩ := ih h0
    obtain ⟨e3, e4⟩ := vst_step h0 hl
    have hlk := look_is (fun x hx => hb x (List.mem_of_mem_drop hx)) hl
    have hlen := look_len (b.drop (vst b k).1) 0 0 (by rw [hl])
    rw [hl, List.length_drop] at hlen
    simp only at hlen
    rw [e3]
    simp only
    refine ⟨by omega, ?_⟩
    rw [getL_succ, pl_append, pl_one, zg_zagI, e4, e2, ← hlk.1, ← List.take_add]
theorem put_get (b : List Nat) (hb : ∀ x ∈ b, x < 256) (k : Int) (h : getE b k = 0) : 0 ≤ k ∧ k ≤ 65536 ∧ pl (getS b k) = b ∧ (getS b k).length = k.toNat ∧ ∀ z ∈ getS b k, In64 z := by
  have hS : getS b k = getL b k.toNat := by unfold getS; rw [if_pos h]
  unfold getE at h
  by_cases hk : k < 0 ∨ 65536 < k
  · rw [if_pos hk] at h; omega
  · rw [if_neg hk] at h
    rw [hS]
    refine ⟨by omega, by omega, ?_, getL_length _ _, ?_⟩
    · cases hx : (vst b k.toNat).2 with
      | some y => rw [hx, endS_some _ _ _ (vst_ok b _ y hx)] at h; exact absurd h (vst_ok b _ y hx)
      | none =>
        rw [hx, endS_none] at h
        obtain ⟨e1, e2⟩ := put_prefix b hb _ hx
        rw [e2]
        by_cases hlt : (vst b k.toNat).1 < b.length
        · rw [if_pos hlt] at h; omega
        · exact List.take_of_length_le (by omega)
    · intro z hz
      obtain ⟨j, _, rfl⟩ := List.mem_map.1 hz
      exact zagI_in (vv_lt hb j)
end Go.Proofs.YtppeagjklndidaaGreatDoor
