import Derived.Sort.OwnSorted
import Derived.Lib.SliceRun
import Derived.Test.YtpgdlmnhomnblaaGreatDoorJ15
import Derived.Test.YtpgdlmnhomnblaaGreatDoorJ16
import Derived.Test.YtpgdlmnhomnblaaGreatDoorJ7
import Derived.Test.YtpgdlmnhomnblaaGreatDoorJ4
import Derived.Laws.Strings
import Derived.BigQuiet
import Derived.Deep.QuietTactic
import Derived.Test.YtpgdlmnhomnblaaGreatDoorJ6
import Derived.Test.YtpgdlmnhomnblaaGreatDoorJ1
import Derived.Lib.SlBytesConst
import Derived.Laws.IdiomStrings
import Derived.Test.YtpgdlmnhomnblaaGreatDoorJ10
import Derived.Test.YtpgdlmnhomnblaaGreatDoorJ12
import Derived.Test.YtpgdlmnhomnblaaGreatDoorJ9
namespace Go.Proofs.YtpgdlmnhomnblaaGreatDoor
open Go.RowKit Go.Sort
set_option linter.unusedVariables false
set_option linter.unusedSimpArgs false
set_option maxRecDepth 100000
theorem own_front {w : World} {base g cap n k : Nat} {e : TypeId} {xs : List Value} (h : w.ownsRow base e 1 (.slice (some ⟨g, 0, none⟩) n cap) n xs) (hk : k ≤ n) : w.ownsRow base e 1 (.slice (some ⟨g, 0, none⟩) k cap) k (xs.take k) := by
  rcases h.2 with ⟨h0, _⟩ | ⟨g', cap', cur, hv, h1, h2, h3, h4, h5, h6⟩
  · cases h0
  · cases hv
    have hl := h.1
    refine ⟨by rw [List.length_take]; omega, .inr ⟨g, cap, cur, rfl, h1, h2, by omega, h4, h5, ?_⟩⟩
    rw [← h6, List.take_take, show min k (n * 1) = k * 1 by omega]
theorem sortT_own (base n : Nat) (v : Value) (l : List Tx) (w : World) (hown : w.ownsRow base 9 1 v n (ts l)) (hl : l.length = n) (hn : n < 4611686018427387904) :
    Calls Tryz.prog 182 #[v] w fun e w' => e = .returned (.tuple #[]) ∧ w'.ownsRow base 9 1 v n (ts (l.mergeSort fun x y => decide (x ≤ y))) ∧ w.grownBy w' v.ownBlock := by
  subst hl
  rcases hown.2 with ⟨rfl, hx⟩ | ⟨g, cap, cur, rfl, hbase, hb, h1, h2, h3, h4⟩
  · have hl0 : l = [] := by
      have := hown.1
      rw [hx] at this
      cases l with
      | nil => rfl
      | cons y m => simp [ts] at hx
    subst hl0
    refine (sort_none_str none 0 w).mono ?_
    rintro e w' ⟨rfl, rfl⟩
    exact ⟨rfl, by simpa [List.mergeSort] using hown, World.grownBy.refl _ _⟩
  · have h4' : cur.toList.take l.length = l.map Go.Proofs.encStr := by simpa [ts] using h4
    refine (sort_row_str g 0 cap l w (holds_of_block hb h4') (Array.getElem?_eq_some_iff.1 hb).1 hn).mono ?_
    rintro e w' ⟨rfl, m, os, rfl⟩
    exact ⟨rfl, ownsRow_sorted (by simp) hbase hb h1 h2 h3, grownBy_sorted _⟩
theorem compactT_own (base n : Nat) (v : Value) (l : List Tx) (w : World) (hown : w.ownsRow base 9 1 v n (ts l)) (hl : l.length = n) (hn : n < 4611686018427387904) :
    Calls Tryz.prog 183 #[v] w fun e w' => ∃ v', e = .returned v' ∧ w'.ownsRow base 9 1 v' (Lib.compact l).length (ts (Lib.compact l)) ∧ w.grownBy w' v.ownBlock := by
  subst hl
  rcases hown.2 with ⟨rfl, hx⟩ | ⟨g, cap, cur, rfl, hbase, hb, h1, h2, h3, h4⟩
  · have hl0 : l = [] := by
      have := hown.1
      rw [hx] at this
      cases l with
      | nil => rfl
      | cons y m => simp [ts] at hx
    subst hl0
    refine (compact_none_str none 0 w).mono ?_
    rintro e w' ⟨rfl, rfl⟩
    exact ⟨_, rfl, by simpa [Lib.compact, Lib.compactUpTo] using hown, World.grownBy.refl _ _⟩
  · have h4' : cur.toList.take l.length = l.map Go.Proofs.encStr := by simpa [ts] using h4
    have hcl : (Lib.compact l).length ≤ l.length := by
      unfold Lib.compact Lib.compactUpTo
      rw [List.length_map]
      have := List.length_filter_le (Lib.keeps l.toArray) (List.range l.length)
      simpa using this
    refine (compact_row_str g 0 cap l w (holds_of_block hb h4') (by omega) h1).mono ?_
    rintro e w' ⟨rfl, q, rfl⟩
    refine ⟨_, rfl, ?_, ?_⟩
    · have ho := ownsRow_sorted (w := w) (n := q) (os := #[]) (ss := l) (ts := Lib.compact l ++ List.replicate (l.length - (Lib.compact l).length) []) (by simp; omega) hbase hb h1 h2 h3
      rw [grow_empty] at ho
      have h5 := own_front ho hcl
      simpa [ts] using h5
    · have hg := grownBy_sorted (w := w) (g := g) (n := q) (os := #[]) (Lib.compact l ++ List.replicate (l.length - (Lib.compact l).length) []).toArray
      rw [grow_empty] at hg
      exact hg
theorem cloneT_any (A : Option Addr) (n c : Nat) (xs : List Value) (w : World) (hr : Reads w w.heap.size 1 A n xs) (h1 : ∀ u ∈ xs, u.oneCell' = true) (hn : n ≤ 4398046511104) :
    Calls Tryz.prog 181 #[.slice A n c] w fun e w' => ∃ v, e = .returned v ∧ w'.ownsRow w.heap.size 9 1 v n xs ∧ Below w.heap.size w w' := by
  obtain ⟨i0, hi0, hz0, hz1, hz2⟩ := info_parts info_str
  have q24 : ∀ (w : World) (a : Option Addr) (n c n' c' : Nat), (binOp .eql 175 (.slice a n c) (.slice none n' c')).run Tryz.prog w = .ok (.bool a.isNone) w := fun w a n c n' c' => Lib.run_eql_slice_nil w _ _ a n c n' c' Tryz.underlying175
  cases A with
  | none =>
    have hn0 : n = 0 := by
      rcases Nat.eq_zero_or_pos n with h0 | h0
      · exact h0
      · obtain ⟨ad, h, _⟩ := hr.2 h0
        cases h
    subst hn0
    obtain rfl : xs = [] := List.eq_nil_of_length_eq_zero (by simpa using hr.1)
    clear hr h1
    go_enter Tryz.func181, Tryz.ntmps181
    go_wp2_with fail
    go_ret
    exact ⟨.slice none 0 0, rfl, own_nil _ _ _ _, Below.refl _ _⟩
  | some ad =>
    go_enter Tryz.func181, Tryz.ntmps181
    go_wp2_with (at_builtin
                 refine wpList_append_any _ rfl (.tmp 5) (.tmp 6) _ rfl w.heap.size 9 i0 _ 1 16 Tryz.underlying175 hi0 hz0 hz1 hz2 rfl (by omega) (.slice (some ⟨w.heap.size, 0, none⟩) 0 0) 0 [] rfl
                   (World.ownsRow_made w #[] 0 (Nat.le_refl _) (Nat.zero_le _) rfl) w.heap.size (some ad) n c xs rfl (hr.alloc (Nat.le_refl _) _) h1 (by unfold maxLen; omega) (by omega) (by simp) ?_
                 intro v3 w3 hown3 hg3 hat3)
    go_ret
    rw [Nat.zero_add, List.nil_append] at hown3
    exact ⟨v3, rfl, hown3, ((Below.refl _ w).alloc (Nat.le_refl _) _).grown hg3 (by simp) (by intro k hk; simp [Value.ownBlock] at hk; omega)⟩
theorem listT_any (A : Option Addr) (n c : Nat) (l : List Tx) (w : World) (hr : Reads w w.heap.size 1 A n (ts l)) (hn : n ≤ 4398046511104) :
    Calls Tryz.prog 140 #[.slice A n c] w (NewT w (lstT l)) := by
  have e1 : l.length = n := by have := hr.1; rw [ts_length] at this; omega
  have E1 := Lib.hid e1
  have HCS := Lib.hid (compact_sort l)
  clear e1
  go_enter Tryz.func140, Tryz.ntmps140
  go_wp2_with fail
  refine (cloneT_any A n c (ts l) w hr (ts_one l) hn).mono ?_
  rintro e w1 ⟨v1, rfl, hown1, hb1⟩
  go_wp2_with fail
  refine (sortT_own w.heap.size n v1 l w1 hown1 E1.out (by omega)).mono ?_
  rintro e w2 ⟨rfl, hown2, hg2⟩
  have hb2 := hb1.grown hg2 hb1.size (fun k hk => (hown1.lt k hk).1)
  go_wp2_with fail
  refine (compactT_own w.heap.size n v1 _ w2 hown2 (by rw [List.length_mergeSort]; exact E1.out) (by omega)).mono ?_
  rintro e w3 ⟨v3, rfl, hown3, hg3⟩
  have hb3 := hb2.grown hg3 hb2.size (fun k hk => (hown2.lt k hk).1)
  rw [HCS.out] at hown3
  go_wp2_with fail
  go_ret
  exact ⟨v3, rfl, hown3, hb3⟩
end Go.Proofs.YtpgdlmnhomnblaaGreatDoor
namespace Go.Proofs.YtpgdlmnhomnblaaGreatDoor
open Go.RowKit
theorem dec_tlt (a b : Tx) : decide (tlt a b) = Op.bytesLess a b := by rw [Bool.eq_iff_iff, decide_eq_true_iff]; exact Iff.rfl
theorem less_of {a b : Tx} (h : tlt a b) : Op.bytesLess a b = true := h
theorem less_not {a b : Tx} (h : ¬ tlt a b) : Op.bytesLess a b = false := by rw [← dec_tlt]; simp [h]
theorem binOp_geq_tx (t : TypeId) (a b : List UInt8) : binOp .geq t (.string ⟨a.toArray⟩) (.string ⟨b.toArray⟩) = pure (.bool !(decide (tlt a b))) := by
  rw [dec_tlt]; simp [binOp, Op.stringOp]
theorem binOp_leq_tx (t : TypeId) (a b : List UInt8) : binOp .leq t (.string ⟨a.toArray⟩) (.string ⟨b.toArray⟩) = pure (.bool !(decide (tlt b a))) := by
  have h : (Op.bytesLess a b || a == b) = !(decide (tlt b a)) := by
    by_cases h1 : tlt a b
    · rw [less_of h1, show decide (tlt b a) = false by simp [tlt_asymm h1]]; rfl
    · rw [less_not h1]
      by_cases h2 : a = b
      · subst h2
        rw [show decide (tlt a a) = false by simp [tlt_irrefl a]]; simp
      · rw [show decide (tlt b a) = true by simp [tlt_total h1 h2]]; simp [h2]
  rw [← h]; simp [binOp, Op.stringOp]
end Go.Proofs.YtpgdlmnhomnblaaGreatDoor
namespace Go.Proofs.YtpgdlmnhomnblaaGreatDoor
open Go.RowKit
set_option linter.unusedVariables false
set_option linter.unusedSimpArgs false
set_option maxRecDepth 100000
attribute [local go_sem] binOp_geq_tx
theorem whT_lt {L : List Tx} (hL : RiseT L) {s y : Tx} {h : Nat} (hy : L[h]? = some y) : tlt y s ↔ h < whT L s := by
  constructor
  · intro h1
    rcases Nat.lt_or_ge h (whT L s) with h2 | h2
    · exact h2
    · obtain ⟨hl, hv⟩ := List.getElem?_eq_some_iff.1 hy
      have hlt : whT L s < L.length := by omega
      have hz : L[whT L s]? = some L[whT L s] := List.getElem?_eq_getElem hlt
      have h3 := whT_at L s hz
      rcases Nat.lt_or_eq_of_le h2 with h4 | h4
      · have := List.pairwise_iff_getElem.1 hL _ _ hlt hl h4
        rw [hv] at this
        exact absurd (tlt_trans this h1) h3
      · have hz' : L[whT L s]? = some y := by rw [h4]; exact hy
        exact absurd h1 (whT_at L s hz')
  · intro h1
    exact whT_below L s h y h1 hy
theorem atLeast_any (ba bx : Nat) (A : Option Addr) (n c i : Nat) (L : List Tx) (s y : Tx) (w : World) (hr : Reads w w.heap.size 1 A n (ts L)) (hn : n ≤ 140737488355328) (ha : w.cell? ⟨ba, 0, none⟩ = some (.slice A n c)) (hx : w.cell? ⟨bx, 0, none⟩ = some (.string ⟨s.toArray⟩)) (hy : L[i]? = some y) :
    Calls Tryz.prog 185 #[.int .i64 (i : Int), .pointer (some ⟨ba, 0, none⟩), .pointer (some ⟨bx, 0, none⟩)] w fun e w' => e = .returned (.bool (!decide (tlt y s))) ∧ Drawn w w' := by
  have e1 : L.length = n := by have := hr.1; rw [ts_length] at this; omega
  have hi : i < n := by have := (List.getElem?_eq_some_iff.1 hy).1; omega
  obtain ⟨ad, u, rfl, _, hu, hc⟩ := hr.at_ hi
  rw [ts_get hy] at hu
  injection hu with hu
  subst hu
  clear e1 hy
  go_enter Tryz.func185, Tryz.ntmps185
  go_wp2_with fail
  go_quiet (fail)
  go_wp2_with fail
  go_ret
  exact ⟨rfl, Drawn.one _ _⟩
set_option maxHeartbeats 1000000 in
theorem search_any (ba bx : Nat) (A : Option Addr) (n c : Nat) (L : List Tx) (s : Tx) (w : World) (hr : Reads w w.heap.size 1 A n (ts L)) (hn : n ≤ 140737488355328) (ha : w.cell? ⟨ba, 0, none⟩ = some (.slice A n c)) (hx : w.cell? ⟨bx, 0, none⟩ = some (.string ⟨s.toArray⟩)) (hL : RiseT L) :
    Calls Tryz.prog 184 #[.int .i64 (n : Int), .func (.func 185) #[] #[.pointer (some ⟨ba, 0, none⟩), .pointer (some ⟨bx, 0, none⟩)]] w fun e w' => e = .returned (.int .i64 (whT L s : Int)) ∧ Drawn w w' := by
  have e1 : L.length = n := by have := hr.1; rw [ts_length] at this; omega
  have HY := Lib.hid (fun h (hh : h < n) => (show ∃ y, L[h]? = some y ∧ (tlt y s ↔ h < whT L s) from ⟨L[h]'(by omega), List.getElem?_eq_getElem (by omega), whT_lt hL (List.getElem?_eq_getElem (by omega))⟩))
  have hpn : whT L s ≤ n := by have := whT_le L s; omega
  have HC := Lib.hid (fun (i : Nat) (y : Tx) (W : World) (hd : Drawn w W) (hy : L[i]? = some y) => (show Calls Tryz.prog 185 #[.int .i64 (i : Int), .pointer (some ⟨ba, 0, none⟩), .pointer (some ⟨bx, 0, none⟩)] W fun e w' => e = .returned (.bool (!decide (tlt y s))) ∧ Drawn W w' by
    obtain ⟨q, rfl⟩ := hd
    exact atLeast_any ba bx A n c i L s y (w.drewN q) (hr.drewN q) hn ha hx hy))
  obtain ⟨p, hp⟩ : ∃ p, p = whT L s := ⟨_, rfl⟩
  rw [← hp] at HY hpn
  have HP := Lib.hid hp
  clear hr ha hx hL e1 hp
  go_enter Tryz.func184, Tryz.ntmps184
  go_wp2_with fail
  go_loopw [5, 6] (fun s5 s6 wr => ∃ lo hi : Nat, s5 = .int .i64 (lo : Int) ∧ s6 = .int .i64 (hi : Int) ∧ lo ≤ p ∧ p ≤ hi ∧ hi ≤ n ∧ Drawn w wr) (fun lo hi _ => (intOf hi).toNat - (intOf lo).toNat)
  case atStart => exact ⟨0, n, rfl, rfl, Nat.zero_le _, hpn, Nat.le_refl _, Drawn.refl _⟩
  case round =>
    obtain ⟨lo, hi, rfl, rfl, h1, h2, h3, hd⟩ := hrel
    by_cases hlt : lo < hi
    · obtain ⟨y, hy, hiff⟩ := HY.out ((lo + hi) / 2) (by omega)
      have hcl := HC.out ((lo + hi) / 2) y _ hd hy
      rw [show (((lo + hi) / 2 : Nat) : Int) = ((lo : Int) + (hi : Int)) / 2 by omega] at hcl
      by_cases hb : (lo + hi) / 2 < p
      · have ht : tlt y s := hiff.2 hb
        rw [show (!decide (tlt y s)) = false by simp [ht]] at hcl
        have HCL := Lib.hid hcl
        clear hcl hy hiff ht
        go_wp2_with fail
        refine HCL.out.mono ?_
        rintro e w2 ⟨rfl, hd2⟩
        go_wp2_with fail
        go_round
        case rel => exact ⟨(lo + hi) / 2 + 1, hi, by rw [show ((lo : Int) + (hi : Int)) / 2 + 1 = (((lo + hi) / 2 + 1 : Nat) : Int) by omega], rfl, by omega, h2, h3, hd.trans hd2⟩
        case measure => simp [intOf]; omega
      · have ht : ¬ tlt y s := fun h => hb (hiff.1 h)
        rw [show (!decide (tlt y s)) = true by simp [ht]] at hcl
        have HCL := Lib.hid hcl
        clear hcl hy hiff ht
        go_wp2_with fail
        refine HCL.out.mono ?_
        rintro e w2 ⟨rfl, hd2⟩
        go_wp2_with fail
        go_round
        case rel => exact ⟨lo, (lo + hi) / 2, rfl, by rw [show ((lo : Int) + (hi : Int)) / 2 = (((lo + hi) / 2 : Nat) : Int) by omega], h1, by omega, by omega, hd.trans hd2⟩
        case measure => simp [intOf]; omega
    · obtain rfl : lo = p := by omega
      go_wp2_with fail
      go_ret
      exact ⟨by rw [← HP.out]; rfl, hd⟩
theorem placeOf_any (A : Option Addr) (n c : Nat) (L : List Tx) (s : Tx) (w : World) (hr : Reads w w.heap.size 1 A n (ts L)) (hn : n ≤ 140737488355328) (hL : RiseT L) :
    Calls Tryz.prog 143 #[.slice A n c, .string ⟨s.toArray⟩] w fun e w' => e = .returned (.int .u64 (whT L s : Int)) ∧ Below w.heap.size w w' := by
  have e1 : L.length = n := by have := hr.1; rw [ts_length] at this; omega
  have hpn : whT L s ≤ n := by have := whT_le L s; omega
  have hmf' := hmfP
  obtain ⟨W, hW⟩ : ∃ W, W = (w.alloc (.cells #[.slice A n c] 175)).alloc (.cells #[.string ⟨s.toArray⟩] 9) := ⟨_, rfl⟩
  have hb : Below w.heap.size w W := by rw [hW]; exact ((Below.refl _ _).alloc (Nat.le_refl _) _).alloc (by simp) _
  have HS := Lib.hid (search_any w.heap.size (w.heap.size + 1) A n c L s W (hr.next hb) hn (by rw [hW]; simp) (by rw [hW]; simp) hL)
  have HW := Lib.hid hW
  obtain ⟨p, hp⟩ : ∃ p, p = whT L s := ⟨_, rfl⟩
  rw [← hp] at hpn HS ⊢
  clear e1 hW hr hp
  go_enter Tryz.func143, Tryz.ntmps143
  go_wp2_with fail
  rw [← HW.out]
  refine HS.out.mono ?_
  rintro e w2 ⟨rfl, hd⟩
  go_wp2_with fail
  go_ret
  exact ⟨rfl, hd.below hb⟩
end Go.Proofs.YtpgdlmnhomnblaaGreatDoor
namespace Go.Proofs.YtpgdlmnhomnblaaGreatDoor
open Go.RowKit
theorem reads_laid (w : World) (cs : Array Value) (t : TypeId) (fr : Nat × Nat) (B n : Nat) (xs : List Value) (hB : w.heap.size < B) (hn : xs.length = n) (hx : cs.toList.take n = xs) :
    Reads (w.alloc (.cells cs t fr)) B 1 (some ⟨w.heap.size, 0, none⟩) n xs := by
  refine ⟨by omega, fun _ => ⟨_, rfl, hB, fun j u hu => ?_⟩⟩
  rw [plain_add, Nat.zero_add, cell_of_row _ _ j cs t fr (heap_alloc_new w _)]
  subst hx
  rw [List.getElem?_take] at hu
  split at hu
  · simpa using hu
  · cases hu
end Go.Proofs.YtpgdlmnhomnblaaGreatDoor
namespace Go.Proofs.YtpgdlmnhomnblaaGreatDoor
open Go.RowKit
set_option linter.unusedVariables false
set_option linter.unusedSimpArgs false
set_option maxRecDepth 100000
def convC (W : World) (s : Tx) : Nat := grownCap W s.length 0 5
def convW (W : World) (s : Tx) : World := W.drew.alloc (.cells (bytesRow ⟨s.toArray⟩ (convC W s)) 5 ((bytesRow ⟨s.toArray⟩ (convC W s)).size, (bytesRow ⟨s.toArray⟩ (convC W s)).size + 1))
theorem conv_is (s : Tx) (W : World) : (convert 9 66 (.string ⟨s.toArray⟩)).run Tryz.prog W = .ok (.slice (some ⟨W.heap.size, 0, none⟩) s.length (convC W s)) (convW W s) := by
  have h := run_bytes_of_string (P := Tryz.prog) W 9 66 5 ⟨s.toArray⟩ Tryz.underlying9 Tryz.underlying66 Tryz.underlying5
  rw [size_enc] at h
  exact h
theorem conv_below (W : World) (s : Tx) : Below W.heap.size W (convW W s) := (Below.drew (Below.refl W.heap.size W)).alloc (Nat.le_refl _) _
theorem conv_reads (W : World) (s : Tx) : Reads (convW W s) (convW W s).heap.size 1 (some ⟨W.heap.size, 0, none⟩) s.length (bs (nb s)) := by
  refine reads_laid W.drew _ _ _ _ _ _ ?_ (by rw [bs_length, nb_length]) ?_
  · unfold convW; simp
  · unfold bytesRow
    rw [Array.toList_append, List.take_append_of_le_length (by simp), List.take_of_length_le (by simp)]
    simp [bs, nb]
theorem blob_nb (s : Tx) : vb (nb s).length ++ nb s = blbT s := by unfold blbT; rw [nb_length]
end Go.Proofs.YtpgdlmnhomnblaaGreatDoor
namespace Go.Proofs.YtpgdlmnhomnblaaGreatDoor
open Go.RowKit
set_option linter.unusedVariables false
set_option linter.unusedSimpArgs false
set_option maxRecDepth 100000
def blob (p : List Nat) : List Nat := vb p.length ++ p
theorem blob_length (p : List Nat) : (blob p).length = (vb p.length).length + p.length := by simp [blob]
set_option maxHeartbeats 400000 in
theorem putBlob_any (A A' : Option Addr) (n c m c' : Nat) (xs : List Value) (p : List Nat) (w : World) (hr : Reads w w.heap.size 1 A n xs) (h1 : ∀ u ∈ xs, u.oneCell' = true)
    (hp : Reads w w.heap.size 1 A' m (bs p)) (hb : n + m ≤ 140737488355300) :
    Calls Tryz.prog 186 #[.slice A n c, .slice A' m c'] w (New w (xs ++ bs (blob p)) (n + (blob p).length)) := by
  obtain ⟨i0, hi0, hz0, hz1, hz2⟩ := info_parts info_u8
  have hm : m = p.length := by have := hp.1; rw [bs_length] at this; omega
  subst hm
  have hl := vb_length p.length
  go_enter Tryz.func186, Tryz.ntmps186
  go_wp2_with (first
    | (go_at_call 111; refine (putVar_any none 0 0 p.length [] w (by omega) Reads.none_ (by simp) (by omega)).mono ?_; rintro e w1 ⟨v1, rfl, hown1, hb1⟩
       simp only [Nat.zero_add, List.nil_append] at hown1
       obtain ⟨A1, c1, rfl, hc1, hc1', hr1⟩ := own_slice hown1)
    | (go_at_call 161; refine (copied_any A n c ((vb p.length).length + p.length) xs w1 ((hr.below hb1).more hb1.size) h1 (by omega)).mono ?_; rintro e w2 ⟨v2, rfl, hown2, hb2⟩)
    | (at_builtin
       refine wpList_append_any _ rfl (.tmp 17) (.tmp 18) _ rfl w1.heap.size 5 i0 _ 1 1 Tryz.underlying66 hi0 hz0 hz1 hz2 rfl (by omega) v2 n xs rfl
         hown2 w1.heap.size A1 (vb p.length).length c1 (bs (vb p.length)) rfl (hr1.below hb2) (bs_one _) (by unfold maxLen; omega) (by omega) hb2.size ?_
       intro v3 w3 hown3 hg3 hat3
       have hb3 : Below w1.heap.size w1 w3 := hb2.grown hg3 hb2.size (fun k hk => (hown2.lt k hk).1))
    | (at_builtin
       refine wpList_append_any _ rfl (.tmp 20) (.tmp 21) _ rfl w1.heap.size 5 i0 _ 1 1 Tryz.underlying66 hi0 hz0 hz1 hz2 rfl (by omega) v3 (n + (vb p.length).length) (xs ++ bs (vb p.length)) rfl
         hown3 w.heap.size A' p.length c' (bs p) rfl ((hp.below hb1).below (hb3.mono hb1.size)) (bs_one _) (by unfold maxLen; omega) (by omega) hb3.size ?_
       intro v4 w4 hown4 hg4 hat4))
  go_ret
  refine ⟨v4, rfl, ?_, (hb1.trans (hb3.mono hb1.size)).grown hg4 (by have := hb3.size; have := hb1.size; omega) (fun k hk => by have := (hown3.lt k hk).1; have := hb1.size; omega)⟩
  rw [blob_length]
  refine own_base ?_ hb1.size
  simpa [blob, bs_append, Nat.add_assoc] using hown4
end Go.Proofs.YtpgdlmnhomnblaaGreatDoor
namespace Go.Proofs.YtpgdlmnhomnblaaGreatDoor
open Go.RowKit
set_option linter.unusedVariables false
set_option linter.unusedSimpArgs false
set_option maxRecDepth 100000
theorem blobT_is (s : Tx) : blob (nb s) = blbT s := blob_nb s
theorem front_le (L : List Tx) (N k : Nat) (hk : k ≤ N) (hN : N ≤ 65536) (hq : ∀ s ∈ L, s.length ≤ 65536) : (vb N ++ blbs (L.take k)).length ≤ 4295622666 := by
  have h1 := (vb_length N).2
  have h2 := blbs_length (L.take k) 65536 (fun s hs => hq s (List.mem_of_mem_take hs))
  have h3 : (L.take k).length ≤ 65536 := by have := List.length_take_le k L; omega
  have h4 : (65536 + 10) * (L.take k).length ≤ (65536 + 10) * 65536 := Nat.mul_le_mul (Nat.le_refl _) h3
  rw [List.length_append]; omega
set_option maxHeartbeats 600000 in
theorem putLT_any (A : Option Addr) (N c : Nat) (L : List Tx) (w : World) (hr : Reads w w.heap.size 1 A N (ts L)) (hn : N ≤ 65536) (hq : ∀ s ∈ L, s.length ≤ 65536) :
    Calls Tryz.prog 144 #[.slice A N c] w (New w (bs (hdT L)) (hdT L).length) := by
  obtain ⟨i0, hi0, hz0, hz1, hz2⟩ := info_parts info_u8
  have e1 : L.length = N := by have := hr.1; rw [ts_length] at this; omega
  have HHD : Hid (hdT L = vb N ++ blbs L) := Lib.hid (by unfold hdT; rw [e1])
  have E1 := Lib.hid e1
  have HQ := Lib.hid hq
  have HFL := Lib.hid (fun k (hk : k ≤ N) => front_le L N k hk hn hq)
  clear e1 hq
  go_enter Tryz.func144, Tryz.ntmps144
  go_wp2_with fail
  refine (putVar_any none 0 0 N [] w (by omega) Reads.none_ (by simp) (by omega)).mono ?_
  rintro e w1 ⟨v1, rfl, hown1, hb1⟩
  rw [List.nil_append, Nat.zero_add] at hown1
  go_wp2_with fail
  go_loopw [3, 12] (fun s3 s12 wr => ∃ k : Nat, k ≤ N ∧ s12 = .int .i64 (k : Int) ∧ wr.ownsRow w.heap.size 5 1 s3 (vb N ++ blbs (L.take k)).length (bs (vb N ++ blbs (L.take k))) ∧ Below w.heap.size w wr) (fun _ i _ => N - (intOf i).toNat)
  case atStart => exact ⟨0, Nat.zero_le _, rfl, by simpa [blbs] using hown1, hb1⟩
  case round =>
    clear hown1 hb1
    obtain ⟨k, hk, rfl, hown, hb⟩ := hrel
    by_cases hlt : k < N
    · obtain ⟨ad, u, rfl, _, hu, hc0⟩ := (hr.below hb).at_ hlt
      obtain ⟨z, hz, rfl⟩ := ts_at hu
      have hzl := HQ.out z (List.mem_of_getElem? hz)
      have hwl := HFL.out k hk
      have HST := Lib.hid (blbs_step hz)
      have HBZ := Lib.hid (blobT_is z)
      have hbl : (blbT z).length ≤ 65546 := by have := blbT_length (s := z); omega
      have hcv := conv_is z
      have hbc := conv_below wr z
      have hrc := conv_reads wr z
      clear hu hz
      go_wp2_with fail
      refine (putBlob_any none _ 0 0 z.length _ [] (nb z) _ Reads.none_ (by simp) hrc (by omega)).mono ?_
      intro e2 w2 hN2
      obtain ⟨A2, c2, rfl, _, hr2, hb2⟩ := hN2.opened
      rw [Nat.zero_add, List.nil_append, HBZ.out] at hr2
      rw [HBZ.out]
      simp only [Nat.zero_add]
      have hbw2 : Below wr.heap.size wr w2 := hbc.trans (hb2.mono hbc.size)
      have hown2 := own_below hown hbw2
      have hb02 := hb.trans (hbw2.mono hb.size)
      clear hcv hbc hrc hb2 hN2
      go_wp2_with (at_builtin
                   refine wpList_append_any _ rfl (.tmp 16) (.tmp 19) _ rfl w.heap.size 5 i0 _ 1 1 Tryz.underlying66 hi0 hz0 hz1 hz2 rfl (by omega) u3 (vb N ++ blbs (L.take k)).length (bs (vb N ++ blbs (L.take k))) rfl
                     hown2 w2.heap.size A2 (blbT z).length c2 (bs (blbT z)) rfl hr2 (bs_one _) (by unfold maxLen; omega) (by omega) hb02.size ?_
                   intro v3 w3 hown3 hg3 hat3)
      go_round
      case rel =>
        refine ⟨k + 1, by omega, by go_num, ?_, hb02.grown hg3 hb02.size (fun j hj => (hown2.lt j hj).1)⟩
        rw [HST.out, ← List.append_assoc, List.length_append, bs_append]
        exact hown3
      case measure => simp [intOf]; omega
    · obtain rfl : k = N := by omega
      have hd := HHD.out
      go_wp2_with fail
      go_ret
      rw [List.take_of_length_le (by rw [E1.out]; exact Nat.le_refl _), ← hd] at hown
      exact ⟨_, rfl, hown, hb⟩
end Go.Proofs.YtpgdlmnhomnblaaGreatDoor
namespace Go.Proofs.YtpgdlmnhomnblaaGreatDoor
open Go.RowKit
set_option linter.unusedVariables false
set_option linter.unusedSimpArgs false
set_option maxRecDepth 100000
set_option maxHeartbeats 1000000 in
theorem pcPutS_any (A : Option Addr) (n c bc : Nat) (xs : List Value) (P : List Nat) (w : World) (hr : Reads w w.heap.size 1 A n xs) (hP : P.length = n) (h16 : ∀ a ∈ P, a < 65536) (hn : n ≤ 65536)
    (hf : ∀ (k p : Nat) (x : Value) (W : World), xs[k]? = some x → P[k]? = some p → Below w.heap.size w W →
      Calls Tryz.prog 142 #[x, .pointer (some ⟨bc, 0, none⟩)] W fun e W' => e = .returned (.int .u64 (p : Int)) ∧ Below W.heap.size W W') :
    Calls Tryz.prog 141 #[.slice A n c, .func (.func 142) #[] #[.pointer (some ⟨bc, 0, none⟩)]] w (New w (bs (pcB P)) (pcB P).length) := by
  have hpl : (us P).length = n := by rw [us_length, hP]
  have hmk := fun W => run_make_u64 n n (Nat.le_refl _) (by omega) W
  rw [← fillW_zero (us P) (.int .u64 0) n hpl] at hmk
  have hw16 : wd P ≤ 16 := (wd_le P 16).2 fun a ha => by have := h16 a ha; simpa using this
  have HPL := Lib.hid hpl; have HF := Lib.hid hf; have HP := Lib.hid hP
  have H64 := Lib.hid (fun a (ha : a ∈ P) => (show a < 18446744073709551616 by have := h16 a ha; omega))
  have HD := Lib.hid (pcB_flat P)
  have hF0 := Blk.new w 131 (fillW (us P) (.int .u64 0) 0)
  have hb0 : Below w.heap.size w (w.alloc (.cells (fillW (us P) (.int .u64 0) 0) 131)) := (Below.refl _ _).alloc (Nat.le_refl _) _
  obtain ⟨K, hK⟩ : ∃ K, K = wd P := ⟨_, rfl⟩
  rw [← hK] at hw16 HD
  have hsz : (packB K P).length ≤ 131073 := by
    rw [packB_length, hP]
    have h8 : n * K ≤ 65536 * 16 := Nat.mul_le_mul hn hw16
    unfold sz
    omega
  have HK := Lib.hid hK
  clear hpl hf hP h16 hK
  go_enter Tryz.func141, Tryz.ntmps141
  go_wp2_with fail
  clear hmk
  go_loopw [16] (fun s16 wr => ∃ k : Nat, k ≤ n ∧ s16 = .int .i64 (k : Int) ∧ Blk wr w.heap.size 131 (fillW (us P) (.int .u64 0) k) ∧ Below w.heap.size w wr) (fun i _ => n - (intOf i).toNat)
  case atStart => exact ⟨0, by omega, rfl, hF0, hb0⟩
  case round =>
    clear hF0 hb0
    obtain ⟨k, hk, rfl, hF, hb⟩ := hrel
    by_cases hlt : k < n
    · obtain ⟨ad, x, rfl, _, hx, hc0⟩ := (hr.below hb).at_ hlt
      obtain ⟨p, hp⟩ : ∃ p, P[k]? = some p := ⟨_, List.getElem?_eq_getElem (by rw [HP.out]; exact hlt)⟩
      have HC := Lib.hid (HF.out k p x wr hx hp hb)
      have HV := Lib.hid (us_get hp)
      have hFl := hF.lt
      clear hx hp
      go_wp2_with fail
      refine HC.out.mono ?_
      rintro e w2 ⟨rfl, hb2⟩
      have hF2 := hF.below hb2 hFl
      have hb02 := hb.trans (hb2.mono hb.size)
      have hc := hF2.cell k
      rw [fillW_old _ _ k (by rw [HPL.out]; omega)] at hc
      have hf := hF2.frozen k
      clear hF hb hb2 hc0
      go_wp2_with fail
      go_round
      case rel =>
        refine ⟨k + 1, by omega, by go_num, ?_, hb02.setCell (Nat.le_refl _) _⟩
        have h1 := hF2.set_ k (.int .u64 (p : Int))
        rw [fillW_next _ _ k _ HV.out] at h1
        exact h1
      case measure => simp [intOf]; omega
    · obtain rfl : k = n := by omega
      rw [fillW_all _ _ k HPL.out] at hF
      have rP : Reads wr wr.heap.size 1 (some ⟨w.heap.size, 0, none⟩) k (us P) := reads_blk hF _ k _ hF.lt HPL.out (by simp; rw [List.take_of_length_le (by rw [HPL.out]; exact Nat.le_refl _)])
      clear hF
      go_wp2_with fail
      refine (width_any _ k k P wr rP H64.out (by omega)).mono ?_
      rintro e w' ⟨rfl, rfl⟩
      rw [← HK.out]
      go_wp2_with fail
      refine (pack_ok _ k k P _ K rfl wr rP H64.out (by omega) (by omega) (by rw [HK.out]; exact Nat.le_refl _)).mono ?_
      rintro e w3 ⟨v3, rfl, hown3, hb3⟩
      obtain ⟨A3, c3, rfl, _, _, r3⟩ := own_slice hown3
      have hb03 := hb.trans (hb3.mono hb.size)
      have hba : Below w3.heap.size w3 (w3.alloc (.cells #[.int .u8 (K : Int)] 5)) := (Below.refl _ _).alloc (Nat.le_refl _) _
      have i2 : IsB (w3.alloc (.cells #[.int .u8 (K : Int)] 5)) (.slice (some ⟨w3.heap.size, 0, none⟩) 1 1) [K] := ⟨_, 1, rfl, reads_blk (Blk.new w3 _ _) _ 1 _ (by simp) rfl rfl⟩
      have i3 : IsB (w3.alloc (.cells #[.int .u8 (K : Int)] 5)) (.slice A3 (packB K P).length c3) (packB K P) := ⟨A3, c3, rfl, r3.next hba⟩
      have hb04 := hb03.trans (hba.mono hb03.size)
      have h3 := two_parts _ 66 _ _ [K] (packB K P) i2 i3
      rw [show (w3.alloc (.cells #[.int .u8 (K : Int)] 5)).heap.size = w3.heap.size + 1 by simp] at h3
      clear hown3 r3 hb3 rP
      go_wp2_with fail
      refine (concat_any (some ⟨w3.heap.size + 1, 0, none⟩) 2 2 [[K], packB K P] _ h3 rfl (by omega) (by simp; omega)).mono ?_
      rintro e w6 ⟨v, rfl, hown, hb6⟩
      have hb5 := hb04.alloc hb04.size (.cells #[.slice (some ⟨w3.heap.size, 0, none⟩) 1 1, .slice A3 (packB K P).length c3] 66)
      rw [HD.out] at hown
      go_wp2_with fail
      go_ret
      exact ⟨v, rfl, own_base hown hb5.size, hb5.trans (hb6.mono hb5.size)⟩
end Go.Proofs.YtpgdlmnhomnblaaGreatDoor
