/- Contracts of package texts' placeOf and of the library's sort.Search with its function literal: where a text stands in what rises, or would. -/
import Derived.BigQuiet
import Derived.Deep.QuietTactic
import Derived.Test.YtppeagjklndidaaJ3
import Derived.Test.YtppeagjklndidaaTxPlain
import Derived.Test.YtppeagjklndidaaJ14
namespace Go.Proofs.Ytppeagjklndidaa
open Go.RowKit
set_option linter.unusedVariables false
set_option linter.unusedSimpArgs false
set_option maxRecDepth 100000

attribute [local go_sem] binOp_geq_tx
theorem whT_lt {L : List Tx} (hL : RiseT L) {s y : Tx} {h : Nat} (hy : L[h]? = some y) : tlt y s ↔ h < whT L s := by
  constructor
  · intro h1
    rcases Nat.lt_or_ge h (whT L s) with h2 | h2
    · exact h2
    · obtain ⟨hl, hv⟩ := List.getElem?_eq_some_iff.1 hy
      have hlt : whT L s < L.length := by omega
      have hz : L[whT L s]? = some L[whT L s] := List.getElem?_eq_getElem hlt
      have h3 := whT_at L s hz
      rcases Nat.lt_or_eq_of_le h2 with h4 | h4
      · have := List.pairwise_iff_getElem.1 hL _ _ hlt hl h4
        rw [hv] at this
        exact absurd (tlt_trans this h1) h3
      · have hz' : L[whT L s]? = some y := by rw [h4]; exact hy
        exact absurd h1 (whT_at L s hz')
  · intro h1
    exact whT_below L s h y h1 hy
theorem atLeast_any (ba bx : Nat) (A : Option Addr) (n c i : Nat) (L : List Tx) (s y : Tx) (w : World) (hr : Reads w w.heap.size 1 A n (ts L)) (hn : n ≤ 140737488355328) (ha : w.cell? ⟨ba, 0, none⟩ = some (.slice A n c)) (hx : w.cell? ⟨bx, 0, none⟩ = some (.string ⟨s.toArray⟩)) (hy : L[i]? = some y) :
    Calls Try.prog 52 #[.int .i64 (i : Int), .pointer (some ⟨ba, 0, none⟩), .pointer (some ⟨bx, 0, none⟩)] w fun e w' => e = .returned (.bool (!decide (tlt y s))) ∧ Drawn w w' := by
  have e1 : L.length = n := by have := hr.1; rw [ts_length] at this; omega
  have hi : i < n := by have := (List.getElem?_eq_some_iff.1 hy).1; omega
  obtain ⟨ad, u, rfl, _, hu, hc⟩ := hr.at_ hi
  rw [ts_get hy] at hu
  injection hu with hu
  subst hu
  clear e1 hy
  go_enter Try.func52, Try.ntmps52
  go_wp2_with fail
  go_quiet (fail)
  go_wp2_with fail
  go_ret
  exact ⟨rfl, Drawn.one _ _⟩
set_option maxHeartbeats 1000000 in
theorem search_any (ba bx : Nat) (A : Option Addr) (n c : Nat) (L : List Tx) (s : Tx) (w : World) (hr : Reads w w.heap.size 1 A n (ts L)) (hn : n ≤ 140737488355328) (ha : w.cell? ⟨ba, 0, none⟩ = some (.slice A n c)) (hx : w.cell? ⟨bx, 0, none⟩ = some (.string ⟨s.toArray⟩)) (hL : RiseT L) :
    Calls Try.prog 51 #[.int .i64 (n : Int), .func (.func 52) #[] #[.pointer (some ⟨ba, 0, none⟩), .pointer (some ⟨bx, 0, none⟩)]] w fun e w' => e = .returned (.int .i64 (whT L s : Int)) ∧ Drawn w w' := by
  have e1 : L.length = n := by have := hr.1; rw [ts_length] at this; omega
  have HY := Lib.hid (fun h (hh : h < n) => (show ∃ y, L[h]? = some y ∧ (tlt y s ↔ h < whT L s) from ⟨L[h]'(by omega), List.getElem?_eq_getElem (by omega), whT_lt hL (List.getElem?_eq_getElem (by omega))⟩))
  have hpn : whT L s ≤ n := by have := whT_le L s; omega
  have HC := Lib.hid (fun (i : Nat) (y : Tx) (W : World) (hd : Drawn w W) (hy : L[i]? = some y) => (show Calls Try.prog 52 #[.int .i64 (i : Int), .pointer (some ⟨ba, 0, none⟩), .pointer (some ⟨bx, 0, none⟩)] W fun e w' => e = .returned (.bool (!decide (tlt y s))) ∧ Drawn W w' by
    obtain ⟨q, rfl⟩ := hd
    exact atLeast_any ba bx A n c i L s y (w.drewN q) (hr.drewN q) hn ha hx hy))
  obtain ⟨p, hp⟩ : ∃ p, p = whT L s := ⟨_, rfl⟩
  rw [← hp] at HY hpn
  have HP := Lib.hid hp
  clear hr ha hx hL e1 hp
  go_enter Try.func51, Try.ntmps51
  go_wp2_with fail
  go_loopw [5, 6] (fun s5 s6 wr => ∃ lo hi : Nat, s5 = .int .i64 (lo : Int) ∧ s6 = .int .i64 (hi : Int) ∧ lo ≤ p ∧ p ≤ hi ∧ hi ≤ n ∧ Drawn w wr) (fun lo hi _ => (intOf hi).toNat - (intOf lo).toNat)
  case atStart => exact ⟨0, n, rfl, rfl, Nat.zero_le _, hpn, Nat.le_refl _, Drawn.refl _⟩
  case round =>
    obtain ⟨lo, hi, rfl, rfl, h1, h2, h3, hd⟩ := hrel
    by_cases hlt : lo < hi
    · obtain ⟨y, hy, hiff⟩ := HY.out ((lo + hi) / 2) (by omega)
      have hcl := HC.out ((lo + hi) / 2) y _ hd hy
      rw [show (((lo + hi) / 2 : Nat) : Int) = ((lo : Int) + (hi : Int)) / 2 by omega] at hcl
      by_cases hb : (lo + hi) / 2 < p
      · have ht : tlt y s := hiff.2 hb
        rw [show (!decide (tlt y s)) = false by simp [ht]] at hcl
        have HCL := Lib.hid hcl
        clear hcl hy hiff ht
        go_wp2_with fail
        refine HCL.out.mono ?_
        rintro e w2 ⟨rfl, hd2⟩
        go_wp2_with fail
        go_round
        case rel => exact ⟨(lo + hi) / 2 + 1, hi, by rw [show ((lo : Int) + (hi : Int)) / 2 + 1 = (((lo + hi) / 2 + 1 : Nat) : Int) by omega], rfl, by omega, h2, h3, hd.trans hd2⟩
        case measure => simp [intOf]; omega
      · have ht : ¬ tlt y s := fun h => hb (hiff.1 h)
        rw [show (!decide (tlt y s)) = true by simp [ht]] at hcl
        have HCL := Lib.hid hcl
        clear hcl hy hiff ht
        go_wp2_with fail
        refine HCL.out.mono ?_
        rintro e w2 ⟨rfl, hd2⟩
        go_wp2_with fail
        go_round
        case rel => exact ⟨lo, (lo + hi) / 2, rfl, by rw [show ((lo : Int) + (hi : Int)) / 2 = (((lo + hi) / 2 : Nat) : Int) by omega], h1, by omega, by omega, hd.trans hd2⟩
        case measure => simp [intOf]; omega
    · obtain rfl : lo = p := by omega
      go_wp2_with fail
      go_ret
      exact ⟨by rw [← HP.out]; rfl, hd⟩
theorem placeOf_any (A : Option Addr) (n c : Nat) (L : List Tx) (s : Tx) (w : World) (hr : Reads w w.heap.size 1 A n (ts L)) (hn : n ≤ 140737488355328) (hL : RiseT L) :
    Calls Try.prog 35 #[.slice A n c, .string ⟨s.toArray⟩] w fun e w' => e = .returned (.int .u64 (whT L s : Int)) ∧ Below w.heap.size w w' := by
  have e1 : L.length = n := by have := hr.1; rw [ts_length] at this; omega
  have hpn : whT L s ≤ n := by have := whT_le L s; omega
  have hmf' := hmfP
  obtain ⟨W, hW⟩ : ∃ W, W = (w.alloc (.cells #[.slice A n c] 35)).alloc (.cells #[.string ⟨s.toArray⟩] 9) := ⟨_, rfl⟩
  have hb : Below w.heap.size w W := by rw [hW]; exact ((Below.refl _ _).alloc (Nat.le_refl _) _).alloc (by simp) _
  have HS := Lib.hid (search_any w.heap.size (w.heap.size + 1) A n c L s W (hr.next hb) hn (by rw [hW]; simp) (by rw [hW]; simp) hL)
  have HW := Lib.hid hW
  obtain ⟨p, hp⟩ : ∃ p, p = whT L s := ⟨_, rfl⟩
  rw [← hp] at hpn HS ⊢
  clear e1 hW hr hp
  go_enter Try.func35, Try.ntmps35
  go_wp2_with fail
  rw [← HW.out]
  refine HS.out.mono ?_
  rintro e w2 ⟨rfl, hd⟩
  go_wp2_with fail
  go_ret
  exact ⟨rfl, hd.below hb⟩
end Go.Proofs.Ytppeagjklndidaa
