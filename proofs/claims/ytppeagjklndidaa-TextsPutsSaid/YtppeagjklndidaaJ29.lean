/- Texts joined: PackOk Two Fill. -/
import Derived.Test.YtppeagjklndidaaPack
import Derived.Test.YtppeagjklndidaaConcat
import Derived.Test.YtppeagjklndidaaWords
/- Contract of package bits' Pack where it goes well. -/
namespace Go.Proofs.Ytppeagjklndidaa
open Go.RowKit
set_option linter.unusedVariables false
set_option linter.unusedSimpArgs false
set_option maxRecDepth 100000

theorem packE_ok (l : List Nat) (w : Nat) (hl : l.length ≤ 65536) (hw : w ≤ 64) (h : wd l ≤ w) : packE l (w : Int) = 0 ∧ packS l (w : Int) = packB w l := by
  have hz : szI (l.length : Int) (w : Int) = (sz l.length w : Int) := by unfold szI; rw [if_pos (by omega)]; simp
  have hE : packE l (w : Int) = 0 := by unfold packE; rw [hz, if_neg (by omega), if_neg (by omega)]
  exact ⟨hE, by unfold packS; rw [if_pos hE]; simp⟩
/-- Pack, where it goes well. -/
theorem pack_ok (A : Option Addr) (n c : Nat) (l : List Nat) (kI : Int) (k : Nat) (hkI : kI = (k : Int)) (w : World) (hr : Reads w w.heap.size 1 A n (us l)) (hl : ∀ a ∈ l, a < 18446744073709551616) (hn : n ≤ 65536) (hk : k ≤ 64) (hd : wd l ≤ k) :
    Calls Try.prog 43 #[.slice A n c, .int .i64 kI] w (NewE w (packB k l) 0) := by
  subst hkI
  have e1 : l.length = n := by have := hr.1; rw [us_length] at this; omega
  have h := pack_any A n c l (k : Int) w hr hl (by omega) (by omega)
  obtain ⟨h1, h2⟩ := packE_ok l k (by omega) hk hd
  rwa [h1, h2] at h
end Go.Proofs.Ytppeagjklndidaa

/- A list of two byte texts, laid in new memory; a width and places packed in it. No condition. -/
namespace Go.Proofs.Ytppeagjklndidaa
open Go.RowKit
set_option linter.unusedVariables false
set_option linter.unusedSimpArgs false
set_option maxRecDepth 100000

theorem two_parts (w : World) (t : TypeId) (v1 v2 : Value) (l1 l2 : List Nat) (h1 : IsB w v1 l1) (h2 : IsB w v2 l2) :
    LL (w.alloc (.cells #[v1, v2] t)) (some ⟨w.heap.size, 0, none⟩) [l1, l2] := by
  have hb : Below w.heap.size w (w.alloc (.cells #[v1, v2] t)) := (Below.refl _ _).alloc (Nat.le_refl _) _
  exact ⟨[v1, v2], reads_blk (Blk.new w t #[v1, v2]) _ 2 _ (by simp) rfl rfl, h1.next hb, h2.next hb, trivial⟩
/-- What stands behind a list: the width of the places, and these, packed in it. -/
def pcB (P : List Nat) : List Nat := wd P :: packB (wd P) P
theorem pcB_flat (P : List Nat) : [[wd P], packB (wd P) P].flatten = pcB P := by simp [pcB]
end Go.Proofs.Ytppeagjklndidaa

/- A row that is filled in order: so many places are filled, the others are zero. No program. -/
namespace Go.Proofs.Ytppeagjklndidaa
open Go.RowKit
set_option linter.unusedVariables false
set_option linter.unusedSimpArgs false
set_option maxRecDepth 100000

/-- A row of which 'k' are filled. -/
def fillW (xs : List Value) (z : Value) (k : Nat) : Array Value := (xs.take k ++ List.replicate (xs.length - k) z).toArray
theorem fillW_zero (xs : List Value) (z : Value) (n : Nat) (h : xs.length = n) : fillW xs z 0 = madeCells #[z] n := by
  apply Array.ext'
  rw [toList_madeCells_one]
  simp [fillW, h]
theorem fillW_all (xs : List Value) (z : Value) (n : Nat) (h : xs.length = n) : fillW xs z n = xs.toArray := by
  unfold fillW
  rw [List.take_of_length_le (by omega), h, Nat.sub_self]
  simp
theorem fillW_old (xs : List Value) (z : Value) (k : Nat) (h : k < xs.length) : (fillW xs z k)[k]? = some z := by
  unfold fillW
  rw [List.getElem?_toArray, List.getElem?_append_right (by rw [List.length_take]; omega), List.getElem?_replicate, if_pos (by rw [List.length_take]; omega)]
theorem fillW_next (xs : List Value) (z : Value) (k : Nat) (v : Value) (h : xs[k]? = some v) : (fillW xs z k).setIfInBounds k v = fillW xs z (k + 1) := by
  have hk : k < xs.length := (List.getElem?_eq_some_iff.1 h).1
  unfold fillW
  rw [List.setIfInBounds_toArray]
  congr 1
  apply List.ext_getElem?
  intro i
  rw [List.getElem?_set]
  by_cases hi : k = i
  · subst hi
    rw [if_pos rfl, if_pos (by simp; omega), List.getElem?_append_left (by simp; omega), List.getElem?_take, if_pos (by omega), h]
  · rw [if_neg hi]
    by_cases h2 : i < k
    · rw [List.getElem?_append_left (by simp; omega), List.getElem?_append_left (by simp; omega), List.getElem?_take, List.getElem?_take, if_pos h2, if_pos (by omega)]
    · rw [List.getElem?_append_right (by simp; omega), List.getElem?_append_right (by simp; omega), List.getElem?_replicate, List.getElem?_replicate]
      simp only [List.length_take]
      by_cases h3 : i < xs.length
      · rw [if_pos (by omega), if_pos (by omega)]
      · rw [if_neg (by omega), if_neg (by omega)]
/-- A block that is just the row is the call's own. -/
theorem own_whole {w : World} {B h n : Nat} {t : TypeId} {xs : List Value} (hb : Blk w h t xs.toArray) (hB : B ≤ h) (hn : xs.length = n) (hm : n ≤ maxLen) :
    w.ownsRow B t 1 (.slice (some ⟨h, 0, none⟩) n n) n xs :=
  ⟨by omega, .inr ⟨h, n, xs.toArray, rfl, hB, hb, Nat.le_refl _, hm, by simp; omega, by simp; rw [List.take_of_length_le (by omega)]⟩⟩
end Go.Proofs.Ytppeagjklndidaa
