/- Texts joined: TxCompact TxList TxCmp Hmf Opened. -/
import Derived.Test.YtppeagjklndidaaGreatDoorTxPlain
import Derived.Lib.SlicesCompact
import Derived.Sort.Walk0
import Derived.Sort.OwnSorted
import Derived.Lib.SliceRun
import Derived.Test.YtppeagjklndidaaGreatDoorJ7
import Derived.Test.YtppeagjklndidaaGreatDoorJ8
import Derived.Test.YtppeagjklndidaaGreatDoorTxOrd
import Derived.Laws.Strings
import Derived.Test.YtppeagjklndidaaGreatDoorJ2
/- Plain facts: texts sorted, then each once, are the rising list of all that are there. No program, no condition. -/
namespace Go.Proofs.YtppeagjklndidaaGreatDoor
open Go.RowKit Go.Lib
set_option linter.unusedVariables false
set_option linter.unusedSimpArgs false

theorem tlt_iff (a b : Tx) : tlt a b ↔ a < b := by unfold tlt; rw [bytesLess_eq]; simp
theorem tle_trans {a b c : Tx} (h1 : ¬ tlt b a) (h2 : ¬ tlt c b) : ¬ tlt c a := by
  intro h
  by_cases e : b = a
  · subst e; exact h2 h
  · exact h2 (tlt_trans h (tlt_total h1 e))
/-- Sorted, with likes. -/
def SortT (d : Array Tx) : Prop := ∀ i j, i ≤ j → j < d.size → ¬ tlt d[j]! d[i]!
theorem compactUpTo_rise (d : Array Tx) (hs : SortT d) : ∀ m, m ≤ d.size → RiseT (compactUpTo d m) ∧ ∀ x, x ∈ compactUpTo d m ↔ ∃ i, i < m ∧ d[i]! = x := by
  intro m
  induction m with
  | zero => intro _; exact ⟨by simp [compactUpTo, RiseT], fun x => by simp [compactUpTo]⟩
  | succ m ih =>
    intro hm
    obtain ⟨i1, i2⟩ := ih (by omega)
    rw [compactUpTo_succ]
    cases hk : keeps d m with
    | false =>
      have h0 : m ≠ 0 ∧ d[m]! = d[m - 1]! := by simpa [keeps] using hk
      simp only [Bool.false_eq_true, if_false, List.append_nil]
      refine ⟨i1, fun x => ?_⟩
      rw [i2]
      constructor
      · rintro ⟨i, hi, e⟩; exact ⟨i, by omega, e⟩
      · rintro ⟨i, hi, e⟩
        by_cases him : i = m
        · subst him; exact ⟨i - 1, by omega, by rw [← h0.2, e]⟩
        · exact ⟨i, by omega, e⟩
    | true =>
      have h0 : m = 0 ∨ ¬ d[m]! = d[m - 1]! := by simpa [keeps] using hk
      simp only [if_true]
      refine ⟨?_, fun x => ?_⟩
      · unfold RiseT
        rw [List.pairwise_append]
        refine ⟨i1, by simp, ?_⟩
        intro x hx y hy
        rw [List.mem_singleton] at hy
        subst hy
        obtain ⟨i, hi, rfl⟩ := (i2 x).1 hx
        have hne : ¬ d[m]! = d[i]! := by
          intro e
          rcases h0 with h0 | h0
          · omega
          · have a1 := hs (m - 1) m (by omega) (by omega)
            have a2 := hs i (m - 1) (by omega) (by omega)
            rw [← e] at a2
            exact h0 (Classical.not_not.1 fun h => a2 (tlt_total a1 h))
        exact tlt_total (hs i m (by omega) (by omega)) hne
      · rw [List.mem_append, i2, List.mem_singleton]
        constructor
        · rintro (⟨i, hi, e⟩ | e)
          · exact ⟨i, by omega, e⟩
          · exact ⟨m, by omega, e.symm⟩
        · rintro ⟨i, hi, e⟩
          by_cases him : i = m
          · subst him; exact .inr e.symm
          · exact .inl ⟨i, by omega, e⟩
theorem compact_sort (l : List Tx) : Lib.compact (l.mergeSort fun x y => decide (x ≤ y)) = lstT l := by
  obtain ⟨s, hs⟩ : ∃ s, s = l.mergeSort fun x y => decide (x ≤ y) := ⟨_, rfl⟩
  have hle : ∀ a b : Tx, decide (a ≤ b) = true ↔ ¬ tlt b a := fun a b => by rw [decide_eq_true_iff, tlt_iff]; exact Iff.rfl
  have hp : s.Pairwise (fun a b => decide (a ≤ b) = true) := by
    rw [hs]
    refine List.pairwise_mergeSort (fun a b c h1 h2 => ?_) (fun a b => ?_) l
    · rw [hle] at *; exact tle_trans h1 h2
    · rw [Bool.or_eq_true, hle, hle]
      by_cases h : tlt b a
      · exact .inr (tlt_asymm h)
      · exact .inl h
  have hso : SortT s.toArray := by
    intro i j hij hj
    have hj' : j < s.length := by simpa using hj
    rw [getElem!_pos s.toArray j hj, getElem!_pos s.toArray i (by omega)]
    simp only [List.getElem_toArray]
    rcases Nat.lt_or_eq_of_le hij with h | h
    · exact (hle _ _).1 (List.pairwise_iff_getElem.1 hp i j (by omega) hj' h)
    · subst h; exact tlt_irrefl _
  obtain ⟨h1, h2⟩ := compactUpTo_rise s.toArray hso s.toArray.size (Nat.le_refl _)
  rw [← hs]
  unfold Lib.compact
  have hsz : s.toArray.size = s.length := by simp
  rw [hsz] at h1 h2
  refine riseT_ext _ _ h1 (lstT_rise l) fun x => ?_
  rw [h2, lstT_mem, ← List.mem_mergeSort (le := fun x y => decide (x ≤ y)), ← hs, List.mem_iff_getElem]
  constructor
  · rintro ⟨i, hi, e⟩
    refine ⟨i, hi, ?_⟩
    rw [getElem!_pos s.toArray i (by simpa using hi)] at e
    simpa using e
  · rintro ⟨i, hi, e⟩
    refine ⟨i, hi, ?_⟩
    rw [getElem!_pos s.toArray i (by simpa using hi)]
    simpa using e
end Go.Proofs.YtppeagjklndidaaGreatDoor

/- Contract of package texts' List: each text that is there, once, rising, in new memory; with the library's Clone, Sort and Compact over texts. -/
namespace Go.Proofs.YtppeagjklndidaaGreatDoor
open Go.RowKit Go.Sort
set_option linter.unusedVariables false
set_option linter.unusedSimpArgs false
set_option maxRecDepth 100000

/-- The front of a row of the call's own. -/
theorem own_front {w : World} {base g cap n k : Nat} {e : TypeId} {xs : List Value} (h : w.ownsRow base e 1 (.slice (some ⟨g, 0, none⟩) n cap) n xs) (hk : k ≤ n) : w.ownsRow base e 1 (.slice (some ⟨g, 0, none⟩) k cap) k (xs.take k) := by
  rcases h.2 with ⟨h0, _⟩ | ⟨g', cap', cur, hv, h1, h2, h3, h4, h5, h6⟩
  · cases h0
  · cases hv
    have hl := h.1
    refine ⟨by rw [List.length_take]; omega, .inr ⟨g, cap, cur, rfl, h1, h2, by omega, h4, h5, ?_⟩⟩
    rw [← h6, List.take_take, show min k (n * 1) = k * 1 by omega]
theorem sortT_own (base n : Nat) (v : Value) (l : List Tx) (w : World) (hown : w.ownsRow base 9 1 v n (ts l)) (hl : l.length = n) (hn : n < 4611686018427387904) :
    Calls Tryz.prog 70 #[v] w fun e w' => e = .returned (.tuple #[]) ∧ w'.ownsRow base 9 1 v n (ts (l.mergeSort fun x y => decide (x ≤ y))) ∧ w.grownBy w' v.ownBlock := by
  subst hl
  rcases hown.2 with ⟨rfl, hx⟩ | ⟨g, cap, cur, rfl, hbase, hb, h1, h2, h3, h4⟩
  · have hl0 : l = [] := by
      have := hown.1
      rw [hx] at this
      cases l with
      | nil => rfl
      | cons y m => simp [ts] at hx
    subst hl0
    refine (sort_none_str none 0 w).mono ?_
    rintro e w' ⟨rfl, rfl⟩
    exact ⟨rfl, by simpa [List.mergeSort] using hown, World.grownBy.refl _ _⟩
  · have h4' : cur.toList.take l.length = l.map Go.Proofs.encStr := by simpa [ts] using h4
    refine (sort_row_str g 0 cap l w (holds_of_block hb h4') (Array.getElem?_eq_some_iff.1 hb).1 hn).mono ?_
    rintro e w' ⟨rfl, m, os, rfl⟩
    exact ⟨rfl, ownsRow_sorted (by simp) hbase hb h1 h2 h3, grownBy_sorted _⟩
theorem compactT_own (base n : Nat) (v : Value) (l : List Tx) (w : World) (hown : w.ownsRow base 9 1 v n (ts l)) (hl : l.length = n) (hn : n < 4611686018427387904) :
    Calls Tryz.prog 71 #[v] w fun e w' => ∃ v', e = .returned v' ∧ w'.ownsRow base 9 1 v' (Lib.compact l).length (ts (Lib.compact l)) ∧ w.grownBy w' v.ownBlock := by
  subst hl
  rcases hown.2 with ⟨rfl, hx⟩ | ⟨g, cap, cur, rfl, hbase, hb, h1, h2, h3, h4⟩
  · have hl0 : l = [] := by
      have := hown.1
      rw [hx] at this
      cases l with
      | nil => rfl
      | cons y m => simp [ts] at hx
    subst hl0
    refine (compact_none_str none 0 w).mono ?_
    rintro e w' ⟨rfl, rfl⟩
    exact ⟨_, rfl, by simpa [Lib.compact, Lib.compactUpTo] using hown, World.grownBy.refl _ _⟩
  · have h4' : cur.toList.take l.length = l.map Go.Proofs.encStr := by simpa [ts] using h4
    have hcl : (Lib.compact l).length ≤ l.length := by
      unfold Lib.compact Lib.compactUpTo
      rw [List.length_map]
      have := List.length_filter_le (Lib.keeps l.toArray) (List.range l.length)
      simpa using this
    refine (compact_row_str g 0 cap l w (holds_of_block hb h4') (by omega) h1).mono ?_
    rintro e w' ⟨rfl, q, rfl⟩
    refine ⟨_, rfl, ?_, ?_⟩
    · have ho := ownsRow_sorted (w := w) (n := q) (os := #[]) (ss := l) (ts := Lib.compact l ++ List.replicate (l.length - (Lib.compact l).length) []) (by simp; omega) hbase hb h1 h2 h3
      rw [grow_empty] at ho
      have h5 := own_front ho hcl
      simpa [ts] using h5
    · have hg := grownBy_sorted (w := w) (g := g) (n := q) (os := #[]) (Lib.compact l ++ List.replicate (l.length - (Lib.compact l).length) []).toArray
      rw [grow_empty] at hg
      exact hg
theorem cloneT_any (A : Option Addr) (n c : Nat) (xs : List Value) (w : World) (hr : Reads w w.heap.size 1 A n xs) (h1 : ∀ u ∈ xs, u.oneCell' = true) (hn : n ≤ 4398046511104) :
    Calls Tryz.prog 69 #[.slice A n c] w fun e w' => ∃ v, e = .returned v ∧ w'.ownsRow w.heap.size 9 1 v n xs ∧ Below w.heap.size w w' := by
  obtain ⟨i0, hi0, hz0, hz1, hz2⟩ := info_parts info_str
  have q24 : ∀ (w : World) (a : Option Addr) (n c n' c' : Nat), (binOp .eql 32 (.slice a n c) (.slice none n' c')).run Tryz.prog w = .ok (.bool a.isNone) w := fun w a n c n' c' => Lib.run_eql_slice_nil w _ _ a n c n' c' Tryz.underlying32
  cases A with
  | none =>
    have hn0 : n = 0 := by
      rcases Nat.eq_zero_or_pos n with h0 | h0
      · exact h0
      · obtain ⟨ad, h, _⟩ := hr.2 h0
        cases h
    subst hn0
    obtain rfl : xs = [] := List.eq_nil_of_length_eq_zero (by simpa using hr.1)
    clear hr h1
    go_enter Tryz.func69, Tryz.ntmps69
    go_wp2_with fail
    go_ret
    exact ⟨.slice none 0 0, rfl, own_nil _ _ _ _, Below.refl _ _⟩
  | some ad =>
    go_enter Tryz.func69, Tryz.ntmps69
    go_wp2_with (at_builtin
                 refine wpList_append_any _ rfl (.tmp 5) (.tmp 6) _ rfl w.heap.size 9 i0 _ 1 16 Tryz.underlying32 hi0 hz0 hz1 hz2 rfl (by omega) (.slice (some ⟨w.heap.size, 0, none⟩) 0 0) 0 [] rfl
                   (World.ownsRow_made w #[] 0 (Nat.le_refl _) (Nat.zero_le _) rfl) w.heap.size (some ad) n c xs rfl (hr.alloc (Nat.le_refl _) _) h1 (by unfold maxLen; omega) (by omega) (by simp) ?_
                 intro v3 w3 hown3 hg3 hat3)
    go_ret
    rw [Nat.zero_add, List.nil_append] at hown3
    exact ⟨v3, rfl, hown3, ((Below.refl _ w).alloc (Nat.le_refl _) _).grown hg3 (by simp) (by intro k hk; simp [Value.ownBlock] at hk; omega)⟩
theorem listT_any (A : Option Addr) (n c : Nat) (l : List Tx) (w : World) (hr : Reads w w.heap.size 1 A n (ts l)) (hn : n ≤ 4398046511104) :
    Calls Tryz.prog 45 #[.slice A n c] w (NewT w (lstT l)) := by
  have e1 : l.length = n := by have := hr.1; rw [ts_length] at this; omega
  have E1 := Lib.hid e1
  have HCS := Lib.hid (compact_sort l)
  clear e1
  go_enter Tryz.func45, Tryz.ntmps45
  go_wp2_with fail
  refine (cloneT_any A n c (ts l) w hr (ts_one l) hn).mono ?_
  rintro e w1 ⟨v1, rfl, hown1, hb1⟩
  go_wp2_with fail
  refine (sortT_own w.heap.size n v1 l w1 hown1 E1.out (by omega)).mono ?_
  rintro e w2 ⟨rfl, hown2, hg2⟩
  have hb2 := hb1.grown hg2 hb1.size (fun k hk => (hown1.lt k hk).1)
  go_wp2_with fail
  refine (compactT_own w.heap.size n v1 _ w2 hown2 (by rw [List.length_mergeSort]; exact E1.out) (by omega)).mono ?_
  rintro e w3 ⟨v3, rfl, hown3, hg3⟩
  have hb3 := hb2.grown hg3 hb2.size (fun k hk => (hown2.lt k hk).1)
  rw [HCS.out] at hown3
  go_wp2_with fail
  go_ret
  exact ⟨v3, rfl, hown3, hb3⟩
end Go.Proofs.YtppeagjklndidaaGreatDoor

/- How the model orders texts: the laws of '>=' and '<=' on them, and their order as a truth. No program, no condition. -/
namespace Go.Proofs.YtppeagjklndidaaGreatDoor
open Go.RowKit
theorem dec_tlt (a b : Tx) : decide (tlt a b) = Op.bytesLess a b := by rw [Bool.eq_iff_iff, decide_eq_true_iff]; exact Iff.rfl
theorem less_of {a b : Tx} (h : tlt a b) : Op.bytesLess a b = true := h
theorem less_not {a b : Tx} (h : ¬ tlt a b) : Op.bytesLess a b = false := by rw [← dec_tlt]; simp [h]
theorem binOp_geq_tx (t : TypeId) (a b : List UInt8) : binOp .geq t (.string ⟨a.toArray⟩) (.string ⟨b.toArray⟩) = pure (.bool !(decide (tlt a b))) := by
  rw [dec_tlt]; simp [binOp, Op.stringOp]
theorem binOp_leq_tx (t : TypeId) (a b : List UInt8) : binOp .leq t (.string ⟨a.toArray⟩) (.string ⟨b.toArray⟩) = pure (.bool !(decide (tlt b a))) := by
  have h : (Op.bytesLess a b || a == b) = !(decide (tlt b a)) := by
    by_cases h1 : tlt a b
    · rw [less_of h1, show decide (tlt b a) = false by simp [tlt_asymm h1]]; rfl
    · rw [less_not h1]
      by_cases h2 : a = b
      · subst h2
        rw [show decide (tlt a a) = false by simp [tlt_irrefl a]]; simp
      · rw [show decide (tlt b a) = true by simp [tlt_total h1 h2]]; simp [h2]
  rw [← h]; simp [binOp, Op.stringOp]
end Go.Proofs.YtppeagjklndidaaGreatDoor

/- A function value that is made. No condition. -/
namespace Go.Proofs.YtppeagjklndidaaGreatDoor
open Go.RowKit
theorem hmfP (fn : Fn) (first cap : Array Value) (w : World) : (Instr.makeFunc fn first cap).run Tryz.prog w = .ok (.func fn first cap) w := by rfl
end Go.Proofs.YtppeagjklndidaaGreatDoor

/- What a function answers that hands out new bytes, opened; what reads goes on reading. -/
namespace Go.Proofs.YtppeagjklndidaaGreatDoor
open Go.RowKit
set_option linter.unusedVariables false
set_option linter.unusedSimpArgs false
set_option maxRecDepth 100000

theorem New.opened {w w' : World} {xs : List Value} {n : Nat} {e : Ending} (h : New w xs n e w') : ∃ A c, e = .returned (.slice A n c) ∧ n ≤ c ∧ Reads w' w'.heap.size 1 A n xs ∧ Below w.heap.size w w' := by
  obtain ⟨v, rfl, hown, hb⟩ := h
  obtain ⟨A, c, rfl, hc, _, hr⟩ := own_slice hown
  exact ⟨A, c, rfl, hc, hr, hb⟩
theorem Reads.next {w w' : World} {size n : Nat} {A : Option Addr} {xs : List Value} (h : Reads w w.heap.size size A n xs) (hb : Below w.heap.size w w') : Reads w' w'.heap.size size A n xs :=
  (h.below hb).more hb.size
end Go.Proofs.YtppeagjklndidaaGreatDoor
