/- Texts joined: TxCmp Hmf Opened TxFind Laid. -/
import Derived.Test.YtppeagjklndidaaDoorJ13
import Derived.Laws.Strings
import Derived.Test.YtppeagjklndidaaDoorJ2
import Derived.BigQuiet
import Derived.Deep.QuietTactic
import Derived.Test.YtppeagjklndidaaDoorJ8
import Derived.Test.YtppeagjklndidaaDoorTxPlain
import Derived.Test.YtppeagjklndidaaDoorWords
import Derived.Lib.SlBytesConst
/- How the model orders texts: the laws of '>=' and '<=' on them, and their order as a truth. No program, no condition. -/
namespace Go.Proofs.YtppeagjklndidaaDoor
open Go.RowKit
theorem dec_tlt (a b : Tx) : decide (tlt a b) = Op.bytesLess a b := by rw [Bool.eq_iff_iff, decide_eq_true_iff]; exact Iff.rfl
theorem less_of {a b : Tx} (h : tlt a b) : Op.bytesLess a b = true := h
theorem less_not {a b : Tx} (h : ¬ tlt a b) : Op.bytesLess a b = false := by rw [← dec_tlt]; simp [h]
theorem binOp_geq_tx (t : TypeId) (a b : List UInt8) : binOp .geq t (.string ⟨a.toArray⟩) (.string ⟨b.toArray⟩) = pure (.bool !(decide (tlt a b))) := by
  rw [dec_tlt]; simp [binOp, Op.stringOp]
theorem binOp_leq_tx (t : TypeId) (a b : List UInt8) : binOp .leq t (.string ⟨a.toArray⟩) (.string ⟨b.toArray⟩) = pure (.bool !(decide (tlt b a))) := by
  have h : (Op.bytesLess a b || a == b) = !(decide (tlt b a)) := by
    by_cases h1 : tlt a b
    · rw [less_of h1, show decide (tlt b a) = false by simp [tlt_asymm h1]]; rfl
    · rw [less_not h1]
      by_cases h2 : a = b
      · subst h2
        rw [show decide (tlt a a) = false by simp [tlt_irrefl a]]; simp
      · rw [show decide (tlt b a) = true by simp [tlt_total h1 h2]]; simp [h2]
  rw [← h]; simp [binOp, Op.stringOp]
end Go.Proofs.YtppeagjklndidaaDoor

/- A function value that is made. No condition. -/
namespace Go.Proofs.YtppeagjklndidaaDoor
open Go.RowKit
theorem hmfP (fn : Fn) (first cap : Array Value) (w : World) : (Instr.makeFunc fn first cap).run Tryd.prog w = .ok (.func fn first cap) w := by rfl
end Go.Proofs.YtppeagjklndidaaDoor

/- What a function answers that hands out new bytes, opened; what reads goes on reading. -/
namespace Go.Proofs.YtppeagjklndidaaDoor
open Go.RowKit
set_option linter.unusedVariables false
set_option linter.unusedSimpArgs false
set_option maxRecDepth 100000

theorem New.opened {w w' : World} {xs : List Value} {n : Nat} {e : Ending} (h : New w xs n e w') : ∃ A c, e = .returned (.slice A n c) ∧ n ≤ c ∧ Reads w' w'.heap.size 1 A n xs ∧ Below w.heap.size w w' := by
  obtain ⟨v, rfl, hown, hb⟩ := h
  obtain ⟨A, c, rfl, hc, _, hr⟩ := own_slice hown
  exact ⟨A, c, rfl, hc, hr, hb⟩
theorem Reads.next {w w' : World} {size n : Nat} {A : Option Addr} {xs : List Value} (h : Reads w w.heap.size size A n xs) (hb : Below w.heap.size w w') : Reads w' w'.heap.size size A n xs :=
  (h.below hb).more hb.size
end Go.Proofs.YtppeagjklndidaaDoor

/- Contracts of package texts' placeOf and of the library's sort.Search with its function literal: where a text stands in what rises, or would. -/
namespace Go.Proofs.YtppeagjklndidaaDoor
open Go.RowKit
set_option linter.unusedVariables false
set_option linter.unusedSimpArgs false
set_option maxRecDepth 100000

attribute [local go_sem] binOp_geq_tx
theorem whT_lt {L : List Tx} (hL : RiseT L) {s y : Tx} {h : Nat} (hy : L[h]? = some y) : tlt y s ↔ h < whT L s := by
  constructor
  · intro h1
    rcases Nat.lt_or_ge h (whT L s) with h2 | h2
    · exact h2
    · obtain ⟨hl, hv⟩ := List.getElem?_eq_some_iff.1 hy
      have hlt : whT L s < L.length := by omega
      have hz : L[whT L s]? = some L[whT L s] := List.getElem?_eq_getElem hlt
      have h3 := whT_at L s hz
      rcases Nat.lt_or_eq_of_le h2 with h4 | h4
      · have := List.pairwise_iff_getElem.1 hL _ _ hlt hl h4
        rw [hv] at this
        exact absurd (tlt_trans this h1) h3
      · have hz' : L[whT L s]? = some y := by rw [h4]; exact hy
        exact absurd h1 (whT_at L s hz')
  · intro h1
    exact whT_below L s h y h1 hy
theorem atLeast_any (ba bx : Nat) (A : Option Addr) (n c i : Nat) (L : List Tx) (s y : Tx) (w : World) (hr : Reads w w.heap.size 1 A n (ts L)) (hn : n ≤ 140737488355328) (ha : w.cell? ⟨ba, 0, none⟩ = some (.slice A n c)) (hx : w.cell? ⟨bx, 0, none⟩ = some (.string ⟨s.toArray⟩)) (hy : L[i]? = some y) :
    Calls Tryd.prog 48 #[.int .i64 (i : Int), .pointer (some ⟨ba, 0, none⟩), .pointer (some ⟨bx, 0, none⟩)] w fun e w' => e = .returned (.bool (!decide (tlt y s))) ∧ Drawn w w' := by
  have e1 : L.length = n := by have := hr.1; rw [ts_length] at this; omega
  have hi : i < n := by have := (List.getElem?_eq_some_iff.1 hy).1; omega
  obtain ⟨ad, u, rfl, _, hu, hc⟩ := hr.at_ hi
  rw [ts_get hy] at hu
  injection hu with hu
  subst hu
  clear e1 hy
  go_enter Tryd.func48, Tryd.ntmps48
  go_wp2_with fail
  go_quiet (fail)
  go_wp2_with fail
  go_ret
  exact ⟨rfl, Drawn.one _ _⟩
set_option maxHeartbeats 1000000 in
theorem search_any (ba bx : Nat) (A : Option Addr) (n c : Nat) (L : List Tx) (s : Tx) (w : World) (hr : Reads w w.heap.size 1 A n (ts L)) (hn : n ≤ 140737488355328) (ha : w.cell? ⟨ba, 0, none⟩ = some (.slice A n c)) (hx : w.cell? ⟨bx, 0, none⟩ = some (.string ⟨s.toArray⟩)) (hL : RiseT L) :
    Calls Tryd.prog 47 #[.int .i64 (n : Int), .func (.func 48) #[] #[.pointer (some ⟨ba, 0, none⟩), .pointer (some ⟨bx, 0, none⟩)]] w fun e w' => e = .returned (.int .i64 (whT L s : Int)) ∧ Drawn w w' := by
  have e1 : L.length = n := by have := hr.1; rw [ts_length] at this; omega
  have HY := Lib.hid (fun h (hh : h < n) => (show ∃ y, L[h]? = some y ∧ (tlt y s ↔ h < whT L s) from ⟨L[h]'(by omega), List.getElem?_eq_getElem (by omega), whT_lt hL (List.getElem?_eq_getElem (by omega))⟩))
  have hpn : whT L s ≤ n := by have := whT_le L s; omega
  have HC := Lib.hid (fun (i : Nat) (y : Tx) (W : World) (hd : Drawn w W) (hy : L[i]? = some y) => (show Calls Tryd.prog 48 #[.int .i64 (i : Int), .pointer (some ⟨ba, 0, none⟩), .pointer (some ⟨bx, 0, none⟩)] W fun e w' => e = .returned (.bool (!decide (tlt y s))) ∧ Drawn W w' by
    obtain ⟨q, rfl⟩ := hd
    exact atLeast_any ba bx A n c i L s y (w.drewN q) (hr.drewN q) hn ha hx hy))
  obtain ⟨p, hp⟩ : ∃ p, p = whT L s := ⟨_, rfl⟩
  rw [← hp] at HY hpn
  have HP := Lib.hid hp
  clear hr ha hx hL e1 hp
  go_enter Tryd.func47, Tryd.ntmps47
  go_wp2_with fail
  go_loopw [5, 6] (fun s5 s6 wr => ∃ lo hi : Nat, s5 = .int .i64 (lo : Int) ∧ s6 = .int .i64 (hi : Int) ∧ lo ≤ p ∧ p ≤ hi ∧ hi ≤ n ∧ Drawn w wr) (fun lo hi _ => (intOf hi).toNat - (intOf lo).toNat)
  case atStart => exact ⟨0, n, rfl, rfl, Nat.zero_le _, hpn, Nat.le_refl _, Drawn.refl _⟩
  case round =>
    obtain ⟨lo, hi, rfl, rfl, h1, h2, h3, hd⟩ := hrel
    by_cases hlt : lo < hi
    · obtain ⟨y, hy, hiff⟩ := HY.out ((lo + hi) / 2) (by omega)
      have hcl := HC.out ((lo + hi) / 2) y _ hd hy
      rw [show (((lo + hi) / 2 : Nat) : Int) = ((lo : Int) + (hi : Int)) / 2 by omega] at hcl
      by_cases hb : (lo + hi) / 2 < p
      · have ht : tlt y s := hiff.2 hb
        rw [show (!decide (tlt y s)) = false by simp [ht]] at hcl
        have HCL := Lib.hid hcl
        clear hcl hy hiff ht
        go_wp2_with fail
        refine HCL.out.mono ?_
        rintro e w2 ⟨rfl, hd2⟩
        go_wp2_with fail
        go_round
        case rel => exact ⟨(lo + hi) / 2 + 1, hi, by rw [show ((lo : Int) + (hi : Int)) / 2 + 1 = (((lo + hi) / 2 + 1 : Nat) : Int) by omega], rfl, by omega, h2, h3, hd.trans hd2⟩
        case measure => simp [intOf]; omega
      · have ht : ¬ tlt y s := fun h => hb (hiff.1 h)
        rw [show (!decide (tlt y s)) = true by simp [ht]] at hcl
        have HCL := Lib.hid hcl
        clear hcl hy hiff ht
        go_wp2_with fail
        refine HCL.out.mono ?_
        rintro e w2 ⟨rfl, hd2⟩
        go_wp2_with fail
        go_round
        case rel => exact ⟨lo, (lo + hi) / 2, rfl, by rw [show ((lo : Int) + (hi : Int)) / 2 = (((lo + hi) / 2 : Nat) : Int) by omega], h1, by omega, by omega, hd.trans hd2⟩
        case measure => simp [intOf]; omega
    · obtain rfl : lo = p := by omega
      go_wp2_with fail
      go_ret
      exact ⟨by rw [← HP.out]; rfl, hd⟩
theorem placeOf_any (A : Option Addr) (n c : Nat) (L : List Tx) (s : Tx) (w : World) (hr : Reads w w.heap.size 1 A n (ts L)) (hn : n ≤ 140737488355328) (hL : RiseT L) :
    Calls Tryd.prog 27 #[.slice A n c, .string ⟨s.toArray⟩] w fun e w' => e = .returned (.int .u64 (whT L s : Int)) ∧ Below w.heap.size w w' := by
  have e1 : L.length = n := by have := hr.1; rw [ts_length] at this; omega
  have hpn : whT L s ≤ n := by have := whT_le L s; omega
  have hmf' := hmfP
  obtain ⟨W, hW⟩ : ∃ W, W = (w.alloc (.cells #[.slice A n c] 34)).alloc (.cells #[.string ⟨s.toArray⟩] 9) := ⟨_, rfl⟩
  have hb : Below w.heap.size w W := by rw [hW]; exact ((Below.refl _ _).alloc (Nat.le_refl _) _).alloc (by simp) _
  have HS := Lib.hid (search_any w.heap.size (w.heap.size + 1) A n c L s W (hr.next hb) hn (by rw [hW]; simp) (by rw [hW]; simp) hL)
  have HW := Lib.hid hW
  obtain ⟨p, hp⟩ : ∃ p, p = whT L s := ⟨_, rfl⟩
  rw [← hp] at hpn HS ⊢
  clear e1 hW hr hp
  go_enter Tryd.func27, Tryd.ntmps27
  go_wp2_with fail
  rw [← HW.out]
  refine HS.out.mono ?_
  rintro e w2 ⟨rfl, hd⟩
  go_wp2_with fail
  go_ret
  exact ⟨rfl, hd.below hb⟩
end Go.Proofs.YtppeagjklndidaaDoor

/- A row that was laid last reads as its cells, whatever is frozen of it. No program. -/
namespace Go.Proofs.YtppeagjklndidaaDoor
open Go.RowKit

/-- A row that was laid last reads as its cells, whatever is frozen of it. -/
theorem reads_laid (w : World) (cs : Array Value) (t : TypeId) (fr : Nat × Nat) (B n : Nat) (xs : List Value) (hB : w.heap.size < B) (hn : xs.length = n) (hx : cs.toList.take n = xs) :
    Reads (w.alloc (.cells cs t fr)) B 1 (some ⟨w.heap.size, 0, none⟩) n xs := by
  refine ⟨by omega, fun _ => ⟨_, rfl, hB, fun j u hu => ?_⟩⟩
  rw [plain_add, Nat.zero_add, cell_of_row _ _ j cs t fr (heap_alloc_new w _)]
  subst hx
  rw [List.getElem?_take] at hu
  split at hu
  · simpa using hu
  · cases hu
end Go.Proofs.YtppeagjklndidaaDoor
