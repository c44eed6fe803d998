/- Contract of package texts' List: each text that is there, once, rising, in new memory; with the library's Clone, Sort and Compact over texts. -/
import Derived.Sort.OwnSorted
import Derived.Lib.SliceRun
import Derived.Test.YtppeagjklndidaaSort
import Derived.Test.YtppeagjklndidaaJ6
import Derived.Test.YtppeagjklndidaaJ3
import Derived.Test.YtppeagjklndidaaTxCompact
namespace Go.Proofs.Ytppeagjklndidaa
open Go.RowKit Go.Sort
set_option linter.unusedVariables false
set_option linter.unusedSimpArgs false
set_option maxRecDepth 100000

/-- The front of a row of the call's own. -/
theorem own_front {w : World} {base g cap n k : Nat} {e : TypeId} {xs : List Value} (h : w.ownsRow base e 1 (.slice (some ⟨g, 0, none⟩) n cap) n xs) (hk : k ≤ n) : w.ownsRow base e 1 (.slice (some ⟨g, 0, none⟩) k cap) k (xs.take k) := by
  rcases h.2 with ⟨h0, _⟩ | ⟨g', cap', cur, hv, h1, h2, h3, h4, h5, h6⟩
  · cases h0
  · cases hv
    have hl := h.1
    refine ⟨by rw [List.length_take]; omega, .inr ⟨g, cap, cur, rfl, h1, h2, by omega, h4, h5, ?_⟩⟩
    rw [← h6, List.take_take, show min k (n * 1) = k * 1 by omega]
theorem sortT_own (base n : Nat) (v : Value) (l : List Tx) (w : World) (hown : w.ownsRow base 9 1 v n (ts l)) (hl : l.length = n) (hn : n < 4611686018427387904) :
    Calls Try.prog 39 #[v] w fun e w' => e = .returned (.tuple #[]) ∧ w'.ownsRow base 9 1 v n (ts (l.mergeSort fun x y => decide (x ≤ y))) ∧ w.grownBy w' v.ownBlock := by
  subst hl
  rcases hown.2 with ⟨rfl, hx⟩ | ⟨g, cap, cur, rfl, hbase, hb, h1, h2, h3, h4⟩
  · have hl0 : l = [] := by
      have := hown.1
      rw [hx] at this
      cases l with
      | nil => rfl
      | cons y m => simp [ts] at hx
    subst hl0
    refine (sort_none_str none 0 w).mono ?_
    rintro e w' ⟨rfl, rfl⟩
    exact ⟨rfl, by simpa [List.mergeSort] using hown, World.grownBy.refl _ _⟩
  · have h4' : cur.toList.take l.length = l.map Go.Proofs.encStr := by simpa [ts] using h4
    refine (sort_row_str g 0 cap l w (holds_of_block hb h4') (Array.getElem?_eq_some_iff.1 hb).1 hn).mono ?_
    rintro e w' ⟨rfl, m, os, rfl⟩
    exact ⟨rfl, ownsRow_sorted (by simp) hbase hb h1 h2 h3, grownBy_sorted _⟩
theorem compactT_own (base n : Nat) (v : Value) (l : List Tx) (w : World) (hown : w.ownsRow base 9 1 v n (ts l)) (hl : l.length = n) (hn : n < 4611686018427387904) :
    Calls Try.prog 40 #[v] w fun e w' => ∃ v', e = .returned v' ∧ w'.ownsRow base 9 1 v' (Lib.compact l).length (ts (Lib.compact l)) ∧ w.grownBy w' v.ownBlock := by
  subst hl
  rcases hown.2 with ⟨rfl, hx⟩ | ⟨g, cap, cur, rfl, hbase, hb, h1, h2, h3, h4⟩
  · have hl0 : l = [] := by
      have := hown.1
      rw [hx] at this
      cases l with
      | nil => rfl
      | cons y m => simp [ts] at hx
    subst hl0
    refine (compact_none_str none 0 w).mono ?_
    rintro e w' ⟨rfl, rfl⟩
    exact ⟨_, rfl, by simpa [Lib.compact, Lib.compactUpTo] using hown, World.grownBy.refl _ _⟩
  · have h4' : cur.toList.take l.length = l.map Go.Proofs.encStr := by simpa [ts] using h4
    have hcl : (Lib.compact l).length ≤ l.length := by
      unfold Lib.compact Lib.compactUpTo
      rw [List.length_map]
      have := List.length_filter_le (Lib.keeps l.toArray) (List.range l.length)
      simpa using this
    refine (compact_row_str g 0 cap l w (holds_of_block hb h4') (by omega) h1).mono ?_
    rintro e w' ⟨rfl, q, rfl⟩
    refine ⟨_, rfl, ?_, ?_⟩
    · have ho := ownsRow_sorted (w := w) (n := q) (os := #[]) (ss := l) (ts := Lib.compact l ++ List.replicate (l.length - (Lib.compact l).length) []) (by simp; omega) hbase hb h1 h2 h3
      rw [grow_empty] at ho
      have h5 := own_front ho hcl
      simpa [ts] using h5
    · have hg := grownBy_sorted (w := w) (g := g) (n := q) (os := #[]) (Lib.compact l ++ List.replicate (l.length - (Lib.compact l).length) []).toArray
      rw [grow_empty] at hg
      exact hg
theorem cloneT_any (A : Option Addr) (n c : Nat) (xs : List Value) (w : World) (hr : Reads w w.heap.size 1 A n xs) (h1 : ∀ u ∈ xs, u.oneCell' = true) (hn : n ≤ 4398046511104) :
    Calls Try.prog 38 #[.slice A n c] w fun e w' => ∃ v, e = .returned v ∧ w'.ownsRow w.heap.size 9 1 v n xs ∧ Below w.heap.size w w' := by
  obtain ⟨i0, hi0, hz0, hz1, hz2⟩ := info_parts info_str
  have q24 : ∀ (w : World) (a : Option Addr) (n c n' c' : Nat), (binOp .eql 35 (.slice a n c) (.slice none n' c')).run Try.prog w = .ok (.bool a.isNone) w := fun w a n c n' c' => Lib.run_eql_slice_nil w _ _ a n c n' c' Try.underlying35
  cases A with
  | none =>
    have hn0 : n = 0 := by
      rcases Nat.eq_zero_or_pos n with h0 | h0
      · exact h0
      · obtain ⟨ad, h, _⟩ := hr.2 h0
        cases h
    subst hn0
    obtain rfl : xs = [] := List.eq_nil_of_length_eq_zero (by simpa using hr.1)
    clear hr h1
    go_enter Try.func38, Try.ntmps38
    go_wp2_with fail
    go_ret
    exact ⟨.slice none 0 0, rfl, own_nil _ _ _ _, Below.refl _ _⟩
  | some ad =>
    go_enter Try.func38, Try.ntmps38
    go_wp2_with (at_builtin
                 refine wpList_append_any _ rfl (.tmp 5) (.tmp 6) _ rfl w.heap.size 9 i0 _ 1 16 Try.underlying35 hi0 hz0 hz1 hz2 rfl (by omega) (.slice (some ⟨w.heap.size, 0, none⟩) 0 0) 0 [] rfl
                   (World.ownsRow_made w #[] 0 (Nat.le_refl _) (Nat.zero_le _) rfl) w.heap.size (some ad) n c xs rfl (hr.alloc (Nat.le_refl _) _) h1 (by unfold maxLen; omega) (by omega) (by simp) ?_
                 intro v3 w3 hown3 hg3 hat3)
    go_ret
    rw [Nat.zero_add, List.nil_append] at hown3
    exact ⟨v3, rfl, hown3, ((Below.refl _ w).alloc (Nat.le_refl _) _).grown hg3 (by simp) (by intro k hk; simp [Value.ownBlock] at hk; omega)⟩
theorem listT_any (A : Option Addr) (n c : Nat) (l : List Tx) (w : World) (hr : Reads w w.heap.size 1 A n (ts l)) (hn : n ≤ 4398046511104) :
    Calls Try.prog 20 #[.slice A n c] w (NewT w (lstT l)) := by
  have e1 : l.length = n := by have := hr.1; rw [ts_length] at this; omega
  have E1 := Lib.hid e1
  have HCS := Lib.hid (compact_sort l)
  clear e1
  go_enter Try.func20, Try.ntmps20
  go_wp2_with fail
  refine (cloneT_any A n c (ts l) w hr (ts_one l) hn).mono ?_
  rintro e w1 ⟨v1, rfl, hown1, hb1⟩
  go_wp2_with fail
  refine (sortT_own w.heap.size n v1 l w1 hown1 E1.out (by omega)).mono ?_
  rintro e w2 ⟨rfl, hown2, hg2⟩
  have hb2 := hb1.grown hg2 hb1.size (fun k hk => (hown1.lt k hk).1)
  go_wp2_with fail
  refine (compactT_own w.heap.size n v1 _ w2 hown2 (by rw [List.length_mergeSort]; exact E1.out) (by omega)).mono ?_
  rintro e w3 ⟨v3, rfl, hown3, hg3⟩
  have hb3 := hb2.grown hg3 hb2.size (fun k hk => (hown2.lt k hk).1)
  rw [HCS.out] at hown3
  go_wp2_with fail
  go_ret
  exact ⟨v3, rfl, hown3, hb3⟩
end Go.Proofs.Ytppeagjklndidaa
