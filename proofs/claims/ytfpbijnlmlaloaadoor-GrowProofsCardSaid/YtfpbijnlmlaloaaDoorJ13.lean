/- Texts joined: GwMath GwAbc Opened Yields. -/
import Derived.Test.YtfpbijnlmlaloaaDoorGwPlain
import Derived.Test.YtfpbijnlmlaloaaDoorJ11
import Derived.Test.YtfpbijnlmlaloaaDoorJ2
import Derived.Deep.RegionWith
import Derived.BigGuard
import Derived.Lib.QuietBelow
/- Layer 20's answers in plain mathematics: when a proof is as long as it has to be; how many digests it has, of any numbers; whether it is checked, of any numbers. No program but for names; no condition. -/
namespace Go.Proofs.YtfpbijnlmlaloaaDoor
open Go.RowKit
set_option linter.unusedVariables false
set_option linter.unusedSimpArgs false

theorem putD_same (m n : Nat) (a : List Nat) (p : List (List Nat)) (is : Bool) (h : m = n) : putD m n a p is = (if is = true then (if p.length = 1 then ⟨p.getLastD [], p.getLastD [], true⟩ else ⟨zD, zD, false⟩) else ⟨a, a, decide (p.length = 0)⟩) := by
  rw [putD, if_pos h]
theorem putD_none (m n : Nat) (a : List Nat) (p : List (List Nat)) (is : Bool) (h : m ≠ n) (hp : p.length = 0) : putD m n a p is = ⟨zD, zD, false⟩ := by
  rw [putD, if_neg h, dif_pos hp]
/-- What is put together is of the right length just if the proof has as many digests as it has to have. -/
theorem putD_ok : ∀ (n m : Nat) (a : List Nat) (p : List (List Nat)) (is : Bool), 1 ≤ m → m ≤ n → (putD m n a p is).ok = decide (p.length = szD m n is) := by
  intro n
  induction n using Nat.strongRecOn with
  | _ n ih =>
    intro m a p is h1 hm
    by_cases he : m = n
    · rw [putD_same m n a p is he, szD_same m n is he]
      cases is with
      | false => simp
      | true =>
        by_cases hp : p.length = 1
        · simp [hp]
        · simp [hp]
    · have h2 : 2 ≤ n := by omega
      have h3 := spl_lt h2
      have h4 := spl_pos h2
      by_cases hk : m ≤ spl n
      · rw [szD_left is h2 he hk]
        by_cases hp : p.length = 0
        · rw [putD_none m n a p is he hp, hp]
          simp
        · rw [putD_left he hp hk]
          show (putD m (spl n) a p.dropLast is).ok = _
          rw [ih (spl n) h3 m a _ is h1 hk, List.length_dropLast]
          exact decide_eq_decide.2 (by omega)
      · rw [szD_right is h2 he hk]
        by_cases hp : p.length = 0
        · rw [putD_none m n a p is he hp, hp]
          simp
        · rw [putD_right he hp hk]
          show (putD (m - spl n) (n - spl n) a p.dropLast true).ok = _
          rw [ih (n - spl n) (by omega) (m - spl n) a _ true (by omega) (by omega), List.length_dropLast]
          exact decide_eq_decide.2 (by omega)
theorem putD_len : ∀ (n m : Nat) (a : List Nat) (p : List (List Nat)) (is : Bool), a.length = 32 → Dg p → (putD m n a p is).old.length = 32 ∧ (putD m n a p is).new.length = 32 := by
  intro n m a p
  induction hpl : p.length using Nat.strongRecOn generalizing n m p with
  | _ N ih =>
    intro is ha hd
    have hz : zD.length = 32 := by decide
    by_cases he : m = n
    · rw [putD_same m n a p is he]
      cases is with
      | false => exact ⟨ha, ha⟩
      | true =>
        by_cases hp : p.length = 1
        · obtain ⟨d, rfl⟩ : ∃ d, p = [d] := by
            match p, hp with
            | [d], _ => exact ⟨d, rfl⟩
          have := (hd d (by simp)).1
          exact ⟨this, this⟩
        · rw [if_pos rfl, if_neg hp]
          exact ⟨hz, hz⟩
    · by_cases hp : p.length = 0
      · rw [putD_none m n a p is he hp]
        exact ⟨hz, hz⟩
      · have hdl : Dg p.dropLast := fun d h => hd d (List.dropLast_subset p h)
        by_cases hk : m ≤ spl n
        · rw [putD_left he hp hk]
          exact ⟨(ih (N - 1) (by omega) (spl n) m p.dropLast (by rw [List.length_dropLast, hpl]) is ha hdl).1, nodeD_len _ _⟩
        · rw [putD_right he hp hk]
          exact ⟨nodeD_len _ _, nodeD_len _ _⟩
/-- Size of any numbers. -/
def sizeD (m n : Int) : Int := if m < 0 ∨ n < m then -1 else if m = 0 then 0 else (szD m.toNat n.toNat false : Int)
theorem checkD_size (m n : Int) (a b : List Nat) (p : List (List Nat)) :
    checkD m n a b p = if 1099511627776 < n ∨ sizeD m n ≠ (p.length : Int) then false else if m = 0 then decide (a = rootL []) else decide ((putD m.toNat n.toNat a p false).old = a) && decide ((putD m.toNat n.toNat a p false).new = b) := by
  unfold checkD sizeD
  by_cases h1 : n < 0 ∨ 1099511627776 < n ∨ m < 0 ∨ n < m
  · rw [if_pos h1]
    by_cases h2 : 1099511627776 < n
    · rw [if_pos (.inl h2)]
    · rw [if_pos (c := m < 0 ∨ n < m) (by omega), if_pos (.inr (by omega))]
  · rw [if_neg h1, if_neg (c := m < 0 ∨ n < m) (by omega)]
    by_cases h0 : m = 0
    · rw [if_pos h0, if_pos h0, if_pos h0]
      by_cases hp : p.length = 0
      · rw [if_neg (by omega)]
        simp [hp]
      · rw [if_pos (by omega)]
        simp [hp]
    · rw [if_neg h0, if_neg h0, if_neg h0, putD_ok n.toNat m.toNat a p false (by omega) (by omega)]
      by_cases hp : p.length = szD m.toNat n.toNat false
      · rw [if_neg (by omega), decide_eq_true hp, Bool.true_and]
      · rw [if_pos (by omega), decide_eq_false hp, Bool.false_and]
theorem proofD_len (l : List (List Nat)) (m : Nat) (hm : m ≤ l.length) : ((proofD l m).length : Int) = sizeD (m : Int) (l.length : Int) := by
  unfold proofD sizeD
  rw [if_neg (c := (m : Int) < 0 ∨ (l.length : Int) < (m : Int)) (by omega)]
  by_cases h0 : m = 0
  · rw [if_pos h0, if_pos (c := (m : Int) = 0) (by omega)]
    rfl
  · rw [if_neg h0, if_neg (c := (m : Int) = 0) (by omega), partD_len l.length l m false rfl (by omega) hm]
    simp only [Int.toNat_natCast]
end Go.Proofs.YtfpbijnlmlaloaaDoor

/- The example of layer 20: the proof of two of three leaves; it is checked with its roots, and not with the new root in the old one's place. No program but for names; no condition. -/
namespace Go.Proofs.YtfpbijnlmlaloaaDoor
open Go.RowKit
set_option linter.unusedVariables false
set_option linter.unusedSimpArgs false
set_option maxRecDepth 100000

theorem leaf_97 : leafD [97] = [2, 42, 105, 121, 230, 218, 183, 170, 90, 228, 195, 229, 228, 95, 126, 151, 113, 18, 167, 230, 53, 147, 130, 13, 190, 193, 236, 115, 138, 36, 249, 60] := by decide +kernel
theorem leaf_98 : leafD [98] = [87, 235, 53, 97, 93, 71, 243, 78, 199, 20, 202, 205, 245, 253, 116, 96, 138, 94, 142, 16, 39, 36, 232, 11, 36, 178, 135, 192, 194, 123, 106, 49] := by decide +kernel
theorem leaf_99 : leafD [99] = [89, 127, 203, 49, 40, 45, 52, 101, 76, 32, 13, 52, 24, 252, 165, 112, 92, 100, 142, 191, 50, 110, 199, 61, 141, 222, 241, 24, 65, 248, 118, 216] := by decide +kernel
theorem node_12 : nodeD [2, 42, 105, 121, 230, 218, 183, 170, 90, 228, 195, 229, 228, 95, 126, 151, 113, 18, 167, 230, 53, 147, 130, 13, 190, 193, 236, 115, 138, 36, 249, 60] [87, 235, 53, 97, 93, 71, 243, 78, 199, 20, 202, 205, 245, 253, 116, 96, 138, 94, 142, 16, 39, 36, 232, 11, 36, 178, 135, 192, 194, 123, 106, 49] = [177, 55, 152, 95, 244, 132, 251, 96, 13, 185, 49, 7, 199, 123, 3, 101, 200, 13, 120, 245, 180, 41, 222, 208, 253, 151, 54, 29, 7, 121, 153, 235] := by decide +kernel
theorem node_123 : nodeD [177, 55, 152, 95, 244, 132, 251, 96, 13, 185, 49, 7, 199, 123, 3, 101, 200, 13, 120, 245, 180, 41, 222, 208, 253, 151, 54, 29, 7, 121, 153, 235] [89, 127, 203, 49, 40, 45, 52, 101, 76, 32, 13, 52, 24, 252, 165, 112, 92, 100, 142, 191, 50, 110, 199, 61, 141, 222, 241, 24, 65, 248, 118, 216] = [54, 100, 46, 115, 194, 84, 10, 177, 33, 227, 166, 191, 149, 69, 176, 162, 73, 130, 205, 131, 14, 177, 61, 60, 209, 157, 227, 206, 108, 2, 30, 193] := by decide +kernel
theorem node_1233 : nodeD [54, 100, 46, 115, 194, 84, 10, 177, 33, 227, 166, 191, 149, 69, 176, 162, 73, 130, 205, 131, 14, 177, 61, 60, 209, 157, 227, 206, 108, 2, 30, 193] [89, 127, 203, 49, 40, 45, 52, 101, 76, 32, 13, 52, 24, 252, 165, 112, 92, 100, 142, 191, 50, 110, 199, 61, 141, 222, 241, 24, 65, 248, 118, 216] = [29, 171, 86, 87, 147, 157, 10, 66, 63, 237, 178, 94, 162, 92, 115, 215, 28, 255, 75, 63, 184, 146, 128, 9, 5, 255, 99, 228, 48, 48, 9, 218] := by decide +kernel
theorem grown_unlike : nodeD (nodeD (nodeD (leafD [97]) (leafD [98])) (leafD [99])) (leafD [99]) ≠ nodeD (nodeD (leafD [97]) (leafD [98])) (leafD [99]) := by
  rw [leaf_97, leaf_98, leaf_99, node_12, node_123, node_1233]
  decide
theorem proof_abc : proofD [[97], [98], [99]] 2 = [leafD [99]] := by
  unfold proofD
  rw [if_neg (by omega)]
  have h := partD_left false (l := [[97], [98], [99]]) (m := 2) (by simp) (by simp) (by rw [show [[97], [98], [99]].length = 3 from rfl, spl_three]; omega)
  rw [show [[97], [98], [99]].length = 3 from rfl, spl_three] at h
  rw [h, partD_same _ 2 false rfl, if_neg (by simp)]
  show [] ++ [rootL [[99]]] = _
  rw [rootL_one]
  rfl
theorem check_abc : checkD 2 3 (rootL [[97], [98]]) (rootL [[97], [98], [99]]) [leafD [99]] = true := by
  have := checkD_proof [[97], [98], [99]] 2 (by simp) (by simp)
  rw [proof_abc] at this
  exact this
theorem check_not : checkD 2 3 (rootL [[97], [98], [99]]) (rootL [[97], [98], [99]]) [leafD [99]] = false := by
  unfold checkD
  rw [if_neg (by omega), if_neg (by omega)]
  have h := putD_left (m := 2) (n := 3) (a := rootL [[97], [98], [99]]) (p := [leafD [99]]) (is := false) (by omega) (by simp) (by rw [spl_three]; omega)
  rw [spl_three, putD_same 2 2 _ _ false rfl] at h
  show ((putD 2 3 (rootL [[97], [98], [99]]) [leafD [99]] false).ok && (decide ((putD 2 3 (rootL [[97], [98], [99]]) [leafD [99]] false).old = rootL [[97], [98], [99]]) && decide ((putD 2 3 (rootL [[97], [98], [99]]) [leafD [99]] false).new = rootL [[97], [98], [99]]))) = false
  rw [h]
  have hne : ¬ nodeD (rootL [[97], [98], [99]]) (leafD [99]) = rootL [[97], [98], [99]] := by
    rw [root_abc]
    exact grown_unlike
  show (decide (([leafD [99]] : List (List Nat)).dropLast.length = 0) && (decide (rootL [[97], [98], [99]] = rootL [[97], [98], [99]]) && decide (nodeD (rootL [[97], [98], [99]]) (leafD [99]) = rootL [[97], [98], [99]]))) = false
  rw [decide_eq_false hne]
  simp
end Go.Proofs.YtfpbijnlmlaloaaDoor

/- What a function answers that hands out new bytes, opened; what reads goes on reading. -/
namespace Go.Proofs.YtfpbijnlmlaloaaDoor
open Go.RowKit
set_option linter.unusedVariables false
set_option linter.unusedSimpArgs false
set_option maxRecDepth 100000

theorem New.opened {w w' : World} {xs : List Value} {n : Nat} {e : Ending} (h : New w xs n e w') : ∃ A c, e = .returned (.slice A n c) ∧ n ≤ c ∧ Reads w' w'.heap.size 1 A n xs ∧ Below w.heap.size w w' := by
  obtain ⟨v, rfl, hown, hb⟩ := h
  obtain ⟨A, c, rfl, hc, _, hr⟩ := own_slice hown
  exact ⟨A, c, rfl, hc, hr, hb⟩
theorem Reads.next {w w' : World} {size n : Nat} {A : Option Addr} {xs : List Value} (h : Reads w w.heap.size size A n xs) (hb : Below w.heap.size w w') : Reads w' w'.heap.size size A n xs :=
  (h.below hb).more hb.size
end Go.Proofs.YtfpbijnlmlaloaaDoor

/- What a call answers wherever what stood below stands: for a drawn region with calls that make memory, in one walk. No condition. -/
namespace Go.Proofs.YtfpbijnlmlaloaaDoor
open Go.RowKit
set_option linter.unusedVariables false
set_option linter.unusedSimpArgs false
set_option maxRecDepth 100000

/-- What a call answers wherever what stood below stands, and that it leaves that. -/
def Yields (B : Nat) (w : World) (f : FuncId) (args : Array Value) (v : Value) : Prop :=
  ∀ W, Below B w W → Calls Tryd.prog f args W fun e w' => e = .returned v ∧ Below B w w'
theorem below_drew {B : Nat} {w W : World} (h : Below B w W) : Below B w W.drew := ⟨h.os, h.tape, h.output, h.size, h.block⟩
theorem Yields.quiet {w : World} {f : FuncId} {args : Array Value} {v : Value} (h : Yields w.heap.size w f args v) (d : Nat) (os : Array Obj) :
    Calls Tryd.prog f args (Go.Sort.grow (redrawn w d) os) fun e w'' => e = .returned v ∧ ∃ p : Regrown, w'' = Go.Sort.grow (redrawn w p.d) p.os :=
  (h _ (below_regrown w d os)).mono fun _ _ ⟨he, hb⟩ => ⟨he, regrown_of_below hb⟩
end Go.Proofs.YtfpbijnlmlaloaaDoor
