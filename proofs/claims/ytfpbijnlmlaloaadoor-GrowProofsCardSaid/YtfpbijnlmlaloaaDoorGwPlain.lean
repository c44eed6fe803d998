/- Layer 20's answers in plain mathematics: the proof that leaves begin with so many, how many digests it has, what is put together of it; and that a proof is checked. No condition. -/
import Derived.Test.YtfpbijnlmlaloaaDoorTrPlain
import Derived.Test.YtfpbijnlmlaloaaDoorJ9
namespace Go.Proofs.YtfpbijnlmlaloaaDoor
open Go.RowKit
set_option linter.unusedVariables false
set_option linter.unusedSimpArgs false

/-- The proof, as a part or not, of leaves that begin with m (1 to how many there are). -/
def partD (l : List (List Nat)) (m : Nat) (is : Bool) : List (List Nat) :=
  if h : l.length < 2 ∨ m = l.length then (if m = l.length ∧ is = true then [rootL l] else [])
  else if m ≤ spl l.length then partD (l.take (spl l.length)) m is ++ [rootL (l.drop (spl l.length))]
  else partD (l.drop (spl l.length)) (m - spl l.length) true ++ [rootL (l.take (spl l.length))]
termination_by l.length
decreasing_by
  all_goals
    have h2 : 2 ≤ l.length := by omega
    have := spl_lt h2
    have := spl_pos h2
    simp only [List.length_take, List.length_drop]
    omega
theorem partD_same (l : List (List Nat)) (m : Nat) (is : Bool) (h : m = l.length) : partD l m is = if is = true then [rootL l] else [] := by
  rw [partD, dif_pos (.inr h)]
  simp [h]
theorem partD_left {l : List (List Nat)} {m : Nat} (is : Bool) (h : 2 ≤ l.length) (hm : m ≠ l.length) (hk : m ≤ spl l.length) : partD l m is = partD (l.take (spl l.length)) m is ++ [rootL (l.drop (spl l.length))] := by
  rw [partD, dif_neg (by omega), if_pos hk]
theorem partD_right {l : List (List Nat)} {m : Nat} (is : Bool) (h : 2 ≤ l.length) (hm : m ≠ l.length) (hk : ¬ m ≤ spl l.length) : partD l m is = partD (l.drop (spl l.length)) (m - spl l.length) true ++ [rootL (l.take (spl l.length))] := by
  rw [partD, dif_neg (by omega), if_neg hk]
/-- The proof of a beginning of m. -/
def proofD (l : List (List Nat)) (m : Nat) : List (List Nat) := if m = 0 then [] else partD l m false
/-- How many digests it has. -/
def szD (m n : Nat) (is : Bool) : Nat :=
  if h : n < 2 ∨ m = n then (if m = n ∧ is = true then 1 else 0)
  else if m ≤ spl n then szD m (spl n) is + 1
  else szD (m - spl n) (n - spl n) true + 1
termination_by n
decreasing_by
  all_goals
    have h2 : 2 ≤ n := by omega
    have := spl_lt h2
    have := spl_pos h2
    omega
theorem szD_same (m n : Nat) (is : Bool) (h : m = n) : szD m n is = if is = true then 1 else 0 := by
  rw [szD, dif_pos (.inr h)]
  simp [h]
theorem szD_left {m n : Nat} (is : Bool) (h : 2 ≤ n) (hm : m ≠ n) (hk : m ≤ spl n) : szD m n is = szD m (spl n) is + 1 := by rw [szD, dif_neg (by omega), if_pos hk]
theorem szD_right {m n : Nat} (is : Bool) (h : 2 ≤ n) (hm : m ≠ n) (hk : ¬ m ≤ spl n) : szD m n is = szD (m - spl n) (n - spl n) true + 1 := by rw [szD, dif_neg (by omega), if_neg hk]
theorem partD_len : ∀ (n : Nat) (l : List (List Nat)) (m : Nat) (is : Bool), l.length = n → 1 ≤ m → m ≤ n → (partD l m is).length = szD m n is := by
  intro n
  induction n using Nat.strongRecOn with
  | _ n ih =>
    intro l m is hl h1 hm
    by_cases he : m = n
    · rw [partD_same l m is (by omega), szD_same m n is he]
      cases is <;> rfl
    · have h2 : 2 ≤ n := by omega
      have h3 := spl_lt h2
      have h4 := spl_pos h2
      by_cases hk : m ≤ spl n
      · rw [partD_left is (by omega) (by omega) (by rw [hl]; exact hk), szD_left is h2 he hk, List.length_append, List.length_singleton, hl, ih (spl n) h3 _ m is (by rw [List.length_take]; omega) h1 hk]
      · rw [partD_right is (by omega) (by omega) (by rw [hl]; exact hk), szD_right is h2 he hk, List.length_append, List.length_singleton, hl, ih (n - spl n) (by omega) _ (m - spl n) true (by rw [List.length_drop]; omega) (by omega) (by omega)]
/-- No proof is longer than the number of leaves has bits, and 1. -/
theorem szD_le : ∀ (e n m : Nat) (is : Bool), n ≤ 2 ^ e → 1 ≤ m → m ≤ n → szD m n is ≤ e + 1 := by
  intro e
  induction e with
  | zero =>
    intro n m is hn h1 hm
    have hn1 : n ≤ 1 := hn
    rw [szD_same m n is (by omega)]
    split <;> omega
  | succ e ih =>
    intro n m is hn h1 hm
    by_cases he : m = n
    · rw [szD_same m n is he]
      split <;> omega
    · have h2 : 2 ≤ n := by omega
      have h3 := spl_lt h2
      have h4 := spl_pos h2
      have h5 := spl_le h2
      have h6 : spl n ≤ 2 ^ e := by
        unfold spl
        rw [if_neg (by omega)]
        refine Nat.pow_le_pow_right (by omega) ?_
        have : Nat.log2 (n - 1) < e + 1 := (Nat.log2_lt (by omega)).2 (by omega)
        omega
      by_cases hk : m ≤ spl n
      · rw [szD_left is h2 he hk]
        have := ih (spl n) m is h6 h1 hk
        omega
      · rw [szD_right is h2 he hk]
        have := ih (n - spl n) (m - spl n) true (by omega) (by omega) (by omega)
        omega
theorem partD_dg : ∀ (n : Nat) (l : List (List Nat)) (m : Nat) (is : Bool), l.length = n → Dg (partD l m is) := by
  intro n
  induction n using Nat.strongRecOn with
  | _ n ih =>
    intro l m is hl
    have hr : ∀ x : List (List Nat), (rootL x).length = 32 ∧ ∀ b ∈ rootL x, b < 256 := fun x => ⟨rootL_len x, rootL_byte x⟩
    by_cases h : l.length < 2 ∨ m = l.length
    · rw [partD, dif_pos h]
      intro d hd
      split at hd
      · rw [List.mem_singleton.1 hd]
        exact hr l
      · cases hd
    · have h2 : 2 ≤ l.length := by omega
      have h3 := spl_lt h2
      have h4 := spl_pos h2
      intro d hd
      by_cases hk : m ≤ spl l.length
      · rw [partD_left is h2 (by omega) hk] at hd
        rcases List.mem_append.1 hd with hd | hd
        · exact ih (spl l.length) (by omega) _ m is (by rw [List.length_take]; omega) d hd
        · rw [List.mem_singleton.1 hd]
          exact hr _
      · rw [partD_right is h2 (by omega) hk] at hd
        rcases List.mem_append.1 hd with hd | hd
        · exact ih (l.length - spl l.length) (by omega) _ _ true (by rw [List.length_drop]) d hd
        · rw [List.mem_singleton.1 hd]
          exact hr _
theorem proofD_dg (l : List (List Nat)) (m : Nat) : Dg (proofD l m) := by
  unfold proofD
  split
  · intro d hd
    cases hd
  · exact partD_dg _ l m false rfl
/-- What is put together: the old root, the new one, whether the proof is of the right length. -/
structure Both where
  old : List Nat
  new : List Nat
  ok : Bool
def zD : List Nat := List.replicate 32 0
def putD (m n : Nat) (a : List Nat) (p : List (List Nat)) (is : Bool) : Both :=
  if m = n then (if is = true then (if p.length = 1 then ⟨p.getLastD [], p.getLastD [], true⟩ else ⟨zD, zD, false⟩) else ⟨a, a, decide (p.length = 0)⟩)
  else if h : p.length = 0 then ⟨zD, zD, false⟩
  else if m ≤ spl n then ⟨(putD m (spl n) a p.dropLast is).old, nodeD (putD m (spl n) a p.dropLast is).new (p.getLastD []), (putD m (spl n) a p.dropLast is).ok⟩
  else ⟨nodeD (p.getLastD []) (putD (m - spl n) (n - spl n) a p.dropLast true).old, nodeD (p.getLastD []) (putD (m - spl n) (n - spl n) a p.dropLast true).new, (putD (m - spl n) (n - spl n) a p.dropLast true).ok⟩
termination_by p.length
decreasing_by
  all_goals
    simp only [List.length_dropLast]
    omega
theorem putD_left {m n : Nat} {a : List Nat} {p : List (List Nat)} {is : Bool} (h : m ≠ n) (hp : p.length ≠ 0) (hk : m ≤ spl n) :
    putD m n a p is = ⟨(putD m (spl n) a p.dropLast is).old, nodeD (putD m (spl n) a p.dropLast is).new (p.getLastD []), (putD m (spl n) a p.dropLast is).ok⟩ := by
  rw [putD, if_neg h, dif_neg hp, if_pos hk]
theorem putD_right {m n : Nat} {a : List Nat} {p : List (List Nat)} {is : Bool} (h : m ≠ n) (hp : p.length ≠ 0) (hk : ¬ m ≤ spl n) :
    putD m n a p is = ⟨nodeD (p.getLastD []) (putD (m - spl n) (n - spl n) a p.dropLast true).old, nodeD (p.getLastD []) (putD (m - spl n) (n - spl n) a p.dropLast true).new, (putD (m - spl n) (n - spl n) a p.dropLast true).ok⟩ := by
  rw [putD, if_neg h, dif_neg hp, if_neg hk]
/-- Between k and 2k (k a number's Split) it is Split, too. -/
theorem spl_mid {m n : Nat} (h2 : 2 ≤ n) (hk : spl n < m) (hm : m ≤ n) : spl m = spl n := by
  have h5 := spl_le h2
  have e : spl n = 2 ^ Nat.log2 (n - 1) := by unfold spl; rw [if_neg (by omega)]
  rw [e] at hk h5 ⊢
  exact spl_is hk (by omega)
/-- A proof is checked: what is put together of it are the root of the beginning and the root of all. -/
theorem putD_part : ∀ (n : Nat) (l : List (List Nat)) (m : Nat) (a : List Nat) (is : Bool), l.length = n → 1 ≤ m → m ≤ n → (is = false → a = rootL (l.take m)) → putD m n a (partD l m is) is = ⟨rootL (l.take m), rootL l, true⟩ := by
  intro n
  induction n using Nat.strongRecOn with
  | _ n ih =>
    intro l m a is hl h1 hm ha
    by_cases he : m = n
    · have ht : l.take m = l := List.take_of_length_le (by omega)
      rw [partD_same l m is (by omega), putD, if_pos he, ht]
      cases is with
      | true => simp
      | false =>
        rw [ht] at ha
        simp [ha rfl]
    · have h2 : 2 ≤ n := by omega
      have h3 := spl_lt h2
      have h4 := spl_pos h2
      have hr2 := rootL_two (l := l) (by omega)
      rw [hl] at hr2
      by_cases hk : m ≤ spl n
      · have hpd := partD_left is (l := l) (m := m) (by omega) (by omega) (by rw [hl]; exact hk)
        rw [hl] at hpd
        have hi := ih (spl n) h3 (l.take (spl n)) m a is (by rw [List.length_take]; omega) h1 hk (fun h => by rw [ha h, List.take_take, Nat.min_eq_left hk])
        rw [List.take_take, Nat.min_eq_left hk] at hi
        rw [putD_left he (by rw [hpd]; simp) hk, hpd, List.dropLast_concat, hi, hr2]
        simp
      · have hpd := partD_right is (l := l) (m := m) (by omega) (by omega) (by rw [hl]; exact hk)
        rw [hl] at hpd
        have hi := ih (n - spl n) (by omega) (l.drop (spl n)) (m - spl n) a true (by rw [List.length_drop]; omega) (by omega) (by omega) (fun h => by cases h)
        have hr3 := rootL_two (l := l.take m) (by rw [List.length_take]; omega)
        rw [List.length_take, hl, Nat.min_eq_left hm, spl_mid h2 (by omega) hm, List.take_take, Nat.min_eq_left (by omega), List.drop_take] at hr3
        rw [putD_right he (by rw [hpd]; simp) hk, hpd, List.dropLast_concat, hi, hr2, hr3]
        simp
/-- P20.2 as a Bool. -/
def checkD (m n : Int) (a b : List Nat) (p : List (List Nat)) : Bool :=
  if n < 0 ∨ 1099511627776 < n ∨ m < 0 ∨ n < m then false
  else if m = 0 then decide (p.length = 0) && decide (a = rootL [])
  else (putD m.toNat n.toNat a p false).ok && (decide ((putD m.toNat n.toNat a p false).old = a) && decide ((putD m.toNat n.toNat a p false).new = b))
theorem checkD_proof (l : List (List Nat)) (m : Nat) (hm : m ≤ l.length) (hl : l.length ≤ 1099511627776) : checkD (m : Int) (l.length : Int) (rootL (l.take m)) (rootL l) (proofD l m) = true := by
  unfold checkD
  rw [if_neg (by omega)]
  by_cases h0 : m = 0
  · subst h0
    simp [proofD]
  · rw [if_neg (by omega)]
    simp only [Int.toNat_natCast]
    unfold proofD
    have hq := putD_part _ l m (rootL (l.take m)) false rfl (by omega) hm (fun _ => rfl)
    simp only [if_neg h0, hq, decide_true, Bool.and_self]
end Go.Proofs.YtfpbijnlmlaloaaDoor
