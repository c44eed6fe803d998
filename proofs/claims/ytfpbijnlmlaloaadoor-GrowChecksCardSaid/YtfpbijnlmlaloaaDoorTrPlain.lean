/- Plain mathematics of trees of digests: where leaves are split, the root, paths, what folds, how deep; what is digested; unlike leaves of one root tell two texts of one digest. No program. -/
import Derived.Test.YtfpbijnlmlaloaaDoorShaPlain
namespace Go.Proofs.YtfpbijnlmlaloaaDoor
set_option linter.unusedVariables false
set_option linter.unusedSimpArgs false

def leafD (l : List Nat) : List Nat := shaN (0 :: l)
def nodeD (a b : List Nat) : List Nat := shaN (1 :: (a ++ b))
/-- The greatest power of two below a number. -/
def spl (n : Nat) : Nat := if n < 2 then 0 else 2 ^ Nat.log2 (n - 1)
theorem spl_pos {n : Nat} (h : 2 ≤ n) : 0 < spl n := by
  unfold spl
  rw [if_neg (by omega)]
  exact Nat.two_pow_pos _
theorem spl_lt {n : Nat} (h : 2 ≤ n) : spl n < n := by
  unfold spl
  rw [if_neg (by omega)]
  have := Nat.log2_self_le (n := n - 1) (by omega)
  omega
theorem spl_le {n : Nat} (h : 2 ≤ n) : n ≤ 2 * spl n := by
  unfold spl
  rw [if_neg (by omega)]
  have := Nat.lt_log2_self (n := n - 1)
  rw [Nat.pow_succ] at this
  omega
theorem spl_small {n : Nat} (h : n < 2) : spl n = 0 := by unfold spl; rw [if_pos h]
theorem pow_between {a b : Nat} (h1 : 2 ^ a < 2 * 2 ^ b) (h2 : 2 ^ b < 2 * 2 ^ a) : a = b := by
  have e1 : 2 ^ a < 2 ^ (b + 1) := by rw [Nat.pow_succ]; omega
  have e2 : 2 ^ b < 2 ^ (a + 1) := by rw [Nat.pow_succ]; omega
  have := (Nat.pow_lt_pow_iff_right (a := 2) (by omega)).1 e1
  have := (Nat.pow_lt_pow_iff_right (a := 2) (by omega)).1 e2
  omega
theorem spl_is {n e : Nat} (h1 : 2 ^ e < n) (h2 : n ≤ 2 * 2 ^ e) : spl n = 2 ^ e := by
  have hp := Nat.two_pow_pos e
  have h := spl_lt (n := n) (by omega)
  have k := spl_le (n := n) (by omega)
  unfold spl at h k ⊢
  rw [if_neg (by omega)] at h k ⊢
  rw [pow_between (a := Nat.log2 (n - 1)) (b := e) (by omega) (by omega)]

/-- The root of at least one digest. -/
def rootD (l : List (List Nat)) : List Nat :=
  if h : l.length < 2 then l.headD [] else nodeD (rootD (l.take (spl l.length))) (rootD (l.drop (spl l.length)))
termination_by l.length
decreasing_by
  · have := spl_lt (n := l.length) (by omega)
    rw [List.length_take]; omega
  · have := spl_pos (n := l.length) (by omega)
    rw [List.length_drop]; omega
theorem rootD_one (d : List Nat) : rootD [d] = d := by rw [rootD]; simp
theorem rootD_two {l : List (List Nat)} (h : 2 ≤ l.length) : rootD l = nodeD (rootD (l.take (spl l.length))) (rootD (l.drop (spl l.length))) := by
  conv => lhs; rw [rootD]
  rw [dif_neg (by omega)]
theorem nodeD_len (a b : List Nat) : (nodeD a b).length = 32 := shaN_length _
theorem leafD_len (a : List Nat) : (leafD a).length = 32 := shaN_length _
theorem rootD_len {l : List (List Nat)} (h : 0 < l.length) (hl : ∀ d ∈ l, d.length = 32) : (rootD l).length = 32 := by
  by_cases h2 : 2 ≤ l.length
  · rw [rootD_two h2]; exact nodeD_len _ _
  · obtain ⟨d, rfl⟩ : ∃ d, l = [d] := by
      match l, h, h2 with
      | [d], _, _ => exact ⟨d, rfl⟩
      | _ :: _ :: _, _, h2 => simp at h2
    rw [rootD_one]; exact hl d (by simp)
theorem rootD_byte {l : List (List Nat)} (h : 0 < l.length) (hl : ∀ d ∈ l, ∀ b ∈ d, b < 256) : ∀ b ∈ rootD l, b < 256 := by
  by_cases h2 : 2 ≤ l.length
  · rw [rootD_two h2]; exact shaN_lt _
  · obtain ⟨d, rfl⟩ : ∃ d, l = [d] := by
      match l, h, h2 with
      | [d], _, _ => exact ⟨d, rfl⟩
      | _ :: _ :: _, _, h2 => simp at h2
    rw [rootD_one]; exact hl d (by simp)
/-- The root of leaves. -/
def rootL (l : List (List Nat)) : List Nat := if l.length = 0 then shaN [] else rootD (l.map leafD)
theorem rootL_nil : rootL [] = shaN [] := rfl
theorem rootL_one (d : List Nat) : rootL [d] = leafD d := by
  have : rootL [d] = rootD [leafD d] := rfl
  rw [this, rootD_one]
theorem rootL_two {l : List (List Nat)} (h : 2 ≤ l.length) : rootL l = nodeD (rootL (l.take (spl l.length))) (rootL (l.drop (spl l.length))) := by
  have h1 := spl_lt h
  have h2 := spl_pos h
  unfold rootL
  rw [if_neg (by omega), if_neg (by rw [List.length_take]; omega), if_neg (by rw [List.length_drop]; omega), rootD_two (by simpa using h), List.length_map, List.map_take, List.map_drop]
theorem rootL_len (l : List (List Nat)) : (rootL l).length = 32 := by
  unfold rootL
  split
  · exact shaN_length _
  · refine rootD_len (by rw [List.length_map]; omega) fun d hd => ?_
    obtain ⟨x, _, rfl⟩ := List.mem_map.1 hd
    exact leafD_len x
theorem rootL_byte (l : List (List Nat)) : ∀ b ∈ rootL l, b < 256 := by
  unfold rootL
  split
  · exact shaN_lt _
  · refine rootD_byte (by rw [List.length_map]; omega) fun d hd => ?_
    obtain ⟨x, _, rfl⟩ := List.mem_map.1 hd
    exact shaN_lt _
/-- The path of a leaf, the half that is the least first. -/
def pathD (l : List (List Nat)) (i : Nat) : List (List Nat) :=
  if h : l.length < 2 then [] else
    if i < spl l.length then pathD (l.take (spl l.length)) i ++ [rootD (l.drop (spl l.length))] else pathD (l.drop (spl l.length)) (i - spl l.length) ++ [rootD (l.take (spl l.length))]
termination_by l.length
decreasing_by
  · have := spl_lt (n := l.length) (by omega)
    rw [List.length_take]; omega
  · have := spl_pos (n := l.length) (by omega)
    rw [List.length_drop]; omega
theorem pathD_one {l : List (List Nat)} (i : Nat) (h : l.length < 2) : pathD l i = [] := by rw [pathD, dif_pos h]
theorem pathD_left {l : List (List Nat)} {i : Nat} (h : 2 ≤ l.length) (hi : i < spl l.length) : pathD l i = pathD (l.take (spl l.length)) i ++ [rootD (l.drop (spl l.length))] := by
  conv => lhs; rw [pathD]
  rw [dif_neg (by omega), if_pos hi]
theorem pathD_right {l : List (List Nat)} {i : Nat} (h : 2 ≤ l.length) (hi : ¬ i < spl l.length) : pathD l i = pathD (l.drop (spl l.length)) (i - spl l.length) ++ [rootD (l.take (spl l.length))] := by
  conv => lhs; rw [pathD]
  rw [dif_neg (by omega), if_neg hi]
/-- How long the path is. -/
def depD (i n : Nat) : Nat :=
  if h : n < 2 then 0 else if i < spl n then depD i (spl n) + 1 else depD (i - spl n) (n - spl n) + 1
termination_by n
decreasing_by
  · exact spl_lt (by omega)
  · have := spl_pos (n := n) (by omega)
    omega
theorem depD_one {n : Nat} (i : Nat) (h : n < 2) : depD i n = 0 := by rw [depD, dif_pos h]
theorem depD_left {i n : Nat} (h : 2 ≤ n) (hi : i < spl n) : depD i n = depD i (spl n) + 1 := by
  conv => lhs; rw [depD]
  rw [dif_neg (by omega), if_pos hi]
theorem depD_right {i n : Nat} (h : 2 ≤ n) (hi : ¬ i < spl n) : depD i n = depD (i - spl n) (n - spl n) + 1 := by
  conv => lhs; rw [depD]
  rw [dif_neg (by omega), if_neg hi]
theorem pathD_len : ∀ (n : Nat) (l : List (List Nat)) (i : Nat), l.length = n → i < n → (pathD l i).length = depD i n := by
  intro n
  induction n using Nat.strongRecOn with
  | _ n ih =>
    intro l i hl hi
    by_cases h2 : 2 ≤ n
    · have h3 := spl_lt h2
      have h4 := spl_pos h2
      by_cases hk : i < spl n
      · rw [pathD_left (by omega) (by rw [hl]; exact hk), depD_left h2 hk, List.length_append, ih (spl n) h3 _ i (by rw [List.length_take, hl]; omega) hk]; rfl
      · rw [pathD_right (by omega) (by rw [hl]; exact hk), depD_right h2 hk, List.length_append, hl, ih (n - spl n) (by omega) _ (i - spl n) (by rw [List.length_drop, hl]) (by omega)]; rfl
    · rw [pathD_one i (by omega), depD_one i (by omega)]; rfl
theorem depD_le : ∀ (e n i : Nat), n ≤ 2 ^ e → i < n → depD i n ≤ e := by
  intro e
  induction e with
  | zero => intro n i h hi; rw [depD_one i (by simp at h; omega)]; omega
  | succ e ih =>
    intro n i h hi
    by_cases h2 : 2 ≤ n
    · have h3 := spl_lt h2
      have h5 : spl n ≤ 2 ^ e := by
        have hk : spl n = 2 ^ Nat.log2 (n - 1) := by unfold spl; rw [if_neg (by omega)]
        rw [hk]
        rw [hk] at h3
        exact Nat.pow_le_pow_right (by omega) (by
          have : 2 ^ Nat.log2 (n - 1) < 2 ^ (e + 1) := by omega
          have := (Nat.pow_lt_pow_iff_right (a := 2) (by omega)).1 this
          omega)
      have h4 := spl_le h2
      by_cases hk : i < spl n
      · rw [depD_left h2 hk]; have := ih (spl n) i h5 hk; omega
      · rw [depD_right h2 hk]; have := ih (n - spl n) (i - spl n) (by omega) (by omega); omega
    · rw [depD_one i (by omega)]; omega
/-- What a digest folds to, with a path that is as long as it has to be. -/
def foldD (h : List Nat) (i n : Nat) (p : List (List Nat)) : List Nat :=
  if q : n < 2 then h else if i < spl n then nodeD (foldD h i (spl n) p.dropLast) (p.getLastD []) else nodeD (p.getLastD []) (foldD h (i - spl n) (n - spl n) p.dropLast)
termination_by n
decreasing_by
  · exact spl_lt (by omega)
  · have := spl_pos (n := n) (by omega)
    omega
theorem foldD_one {n : Nat} (h : List Nat) (i : Nat) (p : List (List Nat)) (q : n < 2) : foldD h i n p = h := by rw [foldD, dif_pos q]
theorem foldD_left {i n : Nat} (h : List Nat) (p : List (List Nat)) (q : 2 ≤ n) (hi : i < spl n) : foldD h i n p = nodeD (foldD h i (spl n) p.dropLast) (p.getLastD []) := by
  conv => lhs; rw [foldD]
  rw [dif_neg (by omega), if_pos hi]
theorem foldD_right {i n : Nat} (h : List Nat) (p : List (List Nat)) (q : 2 ≤ n) (hi : ¬ i < spl n) : foldD h i n p = nodeD (p.getLastD []) (foldD h (i - spl n) (n - spl n) p.dropLast) := by
  conv => lhs; rw [foldD]
  rw [dif_neg (by omega), if_neg hi]
theorem foldD_len {h : List Nat} (i n : Nat) (p : List (List Nat)) (hh : h.length = 32) : (foldD h i n p).length = 32 := by
  by_cases h2 : 2 ≤ n
  · by_cases hi : i < spl n
    · rw [foldD_left h p h2 hi]; exact nodeD_len _ _
    · rw [foldD_right h p h2 hi]; exact nodeD_len _ _
  · rw [foldD_one h i p (by omega)]; exact hh
theorem foldD_byte {h : List Nat} (i n : Nat) (p : List (List Nat)) (hh : ∀ b ∈ h, b < 256) : ∀ b ∈ foldD h i n p, b < 256 := by
  by_cases h2 : 2 ≤ n
  · by_cases hi : i < spl n
    · rw [foldD_left h p h2 hi]; exact shaN_lt _
    · rw [foldD_right h p h2 hi]; exact shaN_lt _
  · rw [foldD_one h i p (by omega)]; exact hh

/-- All that is digested for a root. -/
def textsD (l : List (List Nat)) : List (List Nat) :=
  if h : l.length < 2 then [match l with | [] => [] | d :: _ => 0 :: d] else textsD (l.take (spl l.length)) ++ textsD (l.drop (spl l.length)) ++ [1 :: (rootL (l.take (spl l.length)) ++ rootL (l.drop (spl l.length)))]
termination_by l.length
decreasing_by
  · have := spl_lt (n := l.length) (by omega)
    rw [List.length_take]; omega
  · have := spl_pos (n := l.length) (by omega)
    rw [List.length_drop]; omega
theorem textsD_nil : textsD [] = [[]] := by rw [textsD]; simp
theorem textsD_one (d : List Nat) : textsD [d] = [0 :: d] := by rw [textsD]; simp
theorem textsD_two {l : List (List Nat)} (h : 2 ≤ l.length) : textsD l = textsD (l.take (spl l.length)) ++ textsD (l.drop (spl l.length)) ++ [1 :: (rootL (l.take (spl l.length)) ++ rootL (l.drop (spl l.length)))] := by
  conv => lhs; rw [textsD]
  rw [dif_neg (by omega)]
/-- Two unlike texts of one digest are among them. -/
def ClashIn (ls : List (List Nat)) : Prop := ∃ x ∈ ls, ∃ y ∈ ls, x ≠ y ∧ shaN x = shaN y
theorem clash_tells : ∀ (n : Nat) (a b : List (List Nat)), a.length = n → b.length = n → a ≠ b → rootL a = rootL b → ∃ x ∈ textsD a, ∃ y ∈ textsD b, x ≠ y ∧ shaN x = shaN y := by
  intro n
  induction n using Nat.strongRecOn with
  | _ n ih =>
    intro a b ha hb hne hr
    by_cases h2 : 2 ≤ n
    · have h3 := spl_lt h2
      have h4 := spl_pos h2
      have ra := hr
      rw [rootL_two (by omega), rootL_two (l := b) (by omega), ha, hb] at ra
      rw [textsD_two (l := a) (by omega), textsD_two (l := b) (by omega), ha, hb]
      by_cases he : (1 :: (rootL (a.take (spl n)) ++ rootL (a.drop (spl n)))) = (1 :: (rootL (b.take (spl n)) ++ rootL (b.drop (spl n))))
      · injection he with _ he
        obtain ⟨e1, e2⟩ := List.append_inj he (by rw [rootL_len, rootL_len])
        by_cases ht : a.take (spl n) = b.take (spl n)
        · have hd : a.drop (spl n) ≠ b.drop (spl n) := fun hd => hne (by rw [← List.take_append_drop (spl n) a, ← List.take_append_drop (spl n) b, ht, hd])
          obtain ⟨x, hx, y, hy, hxy⟩ := ih (n - spl n) (by omega) _ _ (by rw [List.length_drop, ha]) (by rw [List.length_drop, hb]) hd e2
          exact ⟨x, by simp [hx], y, by simp [hy], hxy⟩
        · obtain ⟨x, hx, y, hy, hxy⟩ := ih (spl n) h3 _ _ (by rw [List.length_take, ha]; omega) (by rw [List.length_take, hb]; omega) ht e1
          exact ⟨x, by simp [hx], y, by simp [hy], hxy⟩
      · exact ⟨_, by simp, _, by simp, he, ra⟩
    · match a, b, ha, hb with
      | [], [], _, _ => exact absurd rfl hne
      | [], d :: _, ha, hb => simp at ha hb; omega
      | d :: _, [], ha, hb => simp at ha hb; omega
      | [x], [y], _, _ =>
        rw [rootL_one, rootL_one] at hr
        rw [textsD_one, textsD_one]
        exact ⟨0 :: x, by simp, 0 :: y, by simp, fun e => hne (by injection e with _ e; rw [e]), hr⟩
      | _ :: _ :: _, _, ha, _ => simp at ha; omega
      | [_], _ :: _ :: _, ha, hb => simp at ha hb; omega
theorem textsD_byte : ∀ (n : Nat) (l : List (List Nat)), l.length = n → (∀ d ∈ l, ∀ b ∈ d, b < 256) → ∀ t ∈ textsD l, ∀ b ∈ t, b < 256 := by
  intro n
  induction n using Nat.strongRecOn with
  | _ n ih =>
    intro l hl hb t ht
    by_cases h2 : 2 ≤ n
    · have h3 := spl_lt h2
      have h4 := spl_pos h2
      rw [textsD_two (by omega), hl] at ht
      rcases List.mem_append.1 ht with ht | ht
      · rcases List.mem_append.1 ht with ht | ht
        · exact ih (spl n) h3 _ (by rw [List.length_take, hl]; omega) (fun d hd => hb d (List.mem_of_mem_take hd)) t ht
        · exact ih (n - spl n) (by omega) _ (by rw [List.length_drop, hl]) (fun d hd => hb d (List.mem_of_mem_drop hd)) t ht
      · rw [List.mem_singleton] at ht
        subst ht
        intro b hb'
        rcases List.mem_cons.1 hb' with rfl | hb'
        · omega
        · rcases List.mem_append.1 hb' with h | h
          · exact rootL_byte _ b h
          · exact rootL_byte _ b h
    · match l, hl with
      | [], _ => rw [textsD_nil] at ht; simp at ht; subst ht; simp
      | [d], _ =>
        rw [textsD_one] at ht
        simp at ht
        subst ht
        intro b hb'
        rcases List.mem_cons.1 hb' with rfl | hb'
        · omega
        · exact hb d (by simp) b hb'
      | _ :: _ :: _, hl => simp at hl; omega
/-- Each text is as long as a leaf may be and one more, or 65. -/
theorem textsD_long (m : Nat) (hm : 65 ≤ m) : ∀ (n : Nat) (l : List (List Nat)), l.length = n → (∀ d ∈ l, d.length + 1 ≤ m) → ∀ t ∈ textsD l, t.length ≤ m := by
  intro n
  induction n using Nat.strongRecOn with
  | _ n ih =>
    intro l hl hb t ht
    by_cases h2 : 2 ≤ n
    · have h3 := spl_lt h2
      have h4 := spl_pos h2
      rw [textsD_two (by omega), hl] at ht
      rcases List.mem_append.1 ht with ht | ht
      · rcases List.mem_append.1 ht with ht | ht
        · exact ih (spl n) h3 _ (by rw [List.length_take, hl]; omega) (fun d hd => hb d (List.mem_of_mem_take hd)) t ht
        · exact ih (n - spl n) (by omega) _ (by rw [List.length_drop, hl]) (fun d hd => hb d (List.mem_of_mem_drop hd)) t ht
      · rw [List.mem_singleton] at ht
        subst ht
        rw [List.length_cons, List.length_append, rootL_len, rootL_len]
        omega
    · match l, hl with
      | [], _ => rw [textsD_nil] at ht; simp at ht; subst ht; simp
      | [d], _ =>
        rw [textsD_one] at ht
        simp at ht
        subst ht
        exact hb d (by simp)
      | _ :: _ :: _, hl => simp at hl; omega
theorem textsD_count : ∀ (n : Nat) (l : List (List Nat)), l.length = n → (textsD l).length ≤ 2 * n + 1 ∧ (0 < n → (textsD l).length = 2 * n - 1) := by
  intro n
  induction n using Nat.strongRecOn with
  | _ n ih =>
    intro l hl
    by_cases h2 : 2 ≤ n
    · have h3 := spl_lt h2
      have h4 := spl_pos h2
      have i1 := (ih (spl n) h3 (l.take (spl n)) (by rw [List.length_take, hl]; omega)).2 h4
      have i2 := (ih (n - spl n) (by omega) (l.drop (spl n)) (by rw [List.length_drop, hl])).2 (by omega)
      rw [textsD_two (by omega), hl, List.length_append, List.length_append, i1, i2]
      simp
      omega
    · match l, hl with
      | [], hl => rw [textsD_nil]; simp at hl ⊢; omega
      | [d], hl => rw [textsD_one]; simp at hl ⊢; omega
      | _ :: _ :: _, hl => simp at hl; omega
end Go.Proofs.YtfpbijnlmlaloaaDoor
