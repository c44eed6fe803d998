/- Texts joined: TxFind Laid TxConv Num. -/
import Derived.BigQuiet
import Derived.Deep.QuietTactic
import Derived.Test.YtppeagjklndidaaGreatDoorJ8
import Derived.Test.YtppeagjklndidaaGreatDoorTxPlain
import Derived.Test.YtppeagjklndidaaGreatDoorJ12
import Derived.Test.YtppeagjklndidaaGreatDoorWords
import Derived.Lib.SlBytesConst
import Derived.Laws.IdiomStrings
import Derived.Test.YtppeagjklndidaaGreatDoorJ2
/- Contracts of package texts' placeOf and of the library's sort.Search with its function literal: where a text stands in what rises, or would. -/
namespace Go.Proofs.YtppeagjklndidaaGreatDoor
open Go.RowKit
set_option linter.unusedVariables false
set_option linter.unusedSimpArgs false
set_option maxRecDepth 100000

attribute [local go_sem] binOp_geq_tx
theorem whT_lt {L : List Tx} (hL : RiseT L) {s y : Tx} {h : Nat} (hy : L[h]? = some y) : tlt y s ↔ h < whT L s := by
  constructor
  · intro h1
    rcases Nat.lt_or_ge h (whT L s) with h2 | h2
    · exact h2
    · obtain ⟨hl, hv⟩ := List.getElem?_eq_some_iff.1 hy
      have hlt : whT L s < L.length := by omega
      have hz : L[whT L s]? = some L[whT L s] := List.getElem?_eq_getElem hlt
      have h3 := whT_at L s hz
      rcases Nat.lt_or_eq_of_le h2 with h4 | h4
      · have := List.pairwise_iff_getElem.1 hL _ _ hlt hl h4
        rw [hv] at this
        exact absurd (tlt_trans this h1) h3
      · have hz' : L[whT L s]? = some y := by rw [h4]; exact hy
        exact absurd h1 (whT_at L s hz')
  · intro h1
    exact whT_below L s h y h1 hy
theorem atLeast_any (ba bx : Nat) (A : Option Addr) (n c i : Nat) (L : List Tx) (s y : Tx) (w : World) (hr : Reads w w.heap.size 1 A n (ts L)) (hn : n ≤ 140737488355328) (ha : w.cell? ⟨ba, 0, none⟩ = some (.slice A n c)) (hx : w.cell? ⟨bx, 0, none⟩ = some (.string ⟨s.toArray⟩)) (hy : L[i]? = some y) :
    Calls Tryz.prog 73 #[.int .i64 (i : Int), .pointer (some ⟨ba, 0, none⟩), .pointer (some ⟨bx, 0, none⟩)] w fun e w' => e = .returned (.bool (!decide (tlt y s))) ∧ Drawn w w' := by
  have e1 : L.length = n := by have := hr.1; rw [ts_length] at this; omega
  have hi : i < n := by have := (List.getElem?_eq_some_iff.1 hy).1; omega
  obtain ⟨ad, u, rfl, _, hu, hc⟩ := hr.at_ hi
  rw [ts_get hy] at hu
  injection hu with hu
  subst hu
  clear e1 hy
  go_enter Tryz.func73, Tryz.ntmps73
  go_wp2_with fail
  go_quiet (fail)
  go_wp2_with fail
  go_ret
  exact ⟨rfl, Drawn.one _ _⟩
set_option maxHeartbeats 1000000 in
theorem search_any (ba bx : Nat) (A : Option Addr) (n c : Nat) (L : List Tx) (s : Tx) (w : World) (hr : Reads w w.heap.size 1 A n (ts L)) (hn : n ≤ 140737488355328) (ha : w.cell? ⟨ba, 0, none⟩ = some (.slice A n c)) (hx : w.cell? ⟨bx, 0, none⟩ = some (.string ⟨s.toArray⟩)) (hL : RiseT L) :
    Calls Tryz.prog 72 #[.int .i64 (n : Int), .func (.func 73) #[] #[.pointer (some ⟨ba, 0, none⟩), .pointer (some ⟨bx, 0, none⟩)]] w fun e w' => e = .returned (.int .i64 (whT L s : Int)) ∧ Drawn w w' := by
  have e1 : L.length = n := by have := hr.1; rw [ts_length] at this; omega
  have HY := Lib.hid (fun h (hh : h < n) => (show ∃ y, L[h]? = some y ∧ (tlt y s ↔ h < whT L s) from ⟨L[h]'(by omega), List.getElem?_eq_getElem (by omega), whT_lt hL (List.getElem?_eq_getElem (by omega))⟩))
  have hpn : whT L s ≤ n := by have := whT_le L s; omega
  have HC := Lib.hid (fun (i : Nat) (y : Tx) (W : World) (hd : Drawn w W) (hy : L[i]? = some y) => (show Calls Tryz.prog 73 #[.int .i64 (i : Int), .pointer (some ⟨ba, 0, none⟩), .pointer (some ⟨bx, 0, none⟩)] W fun e w' => e = .returned (.bool (!decide (tlt y s))) ∧ Drawn W w' by
    obtain ⟨q, rfl⟩ := hd
    exact atLeast_any ba bx A n c i L s y (w.drewN q) (hr.drewN q) hn ha hx hy))
  obtain ⟨p, hp⟩ : ∃ p, p = whT L s := ⟨_, rfl⟩
  rw [← hp] at HY hpn
  have HP := Lib.hid hp
  clear hr ha hx hL e1 hp
  go_enter Tryz.func72, Tryz.ntmps72
  go_wp2_with fail
  go_loopw [5, 6] (fun s5 s6 wr => ∃ lo hi : Nat, s5 = .int .i64 (lo : Int) ∧ s6 = .int .i64 (hi : Int) ∧ lo ≤ p ∧ p ≤ hi ∧ hi ≤ n ∧ Drawn w wr) (fun lo hi _ => (intOf hi).toNat - (intOf lo).toNat)
  case atStart => exact ⟨0, n, rfl, rfl, Nat.zero_le _, hpn, Nat.le_refl _, Drawn.refl _⟩
  case round =>
    obtain ⟨lo, hi, rfl, rfl, h1, h2, h3, hd⟩ := hrel
    by_cases hlt : lo < hi
    · obtain ⟨y, hy, hiff⟩ := HY.out ((lo + hi) / 2) (by omega)
      have hcl := HC.out ((lo + hi) / 2) y _ hd hy
      rw [show (((lo + hi) / 2 : Nat) : Int) = ((lo : Int) + (hi : Int)) / 2 by omega] at hcl
      by_cases hb : (lo + hi) / 2 < p
      · have ht : tlt y s := hiff.2 hb
        rw [show (!decide (tlt y s)) = false by simp [ht]] at hcl
        have HCL := Lib.hid hcl
        clear hcl hy hiff ht
        go_wp2_with fail
        refine HCL.out.mono ?_
        rintro e w2 ⟨rfl, hd2⟩
        go_wp2_with fail
        go_round
        case rel => exact ⟨(lo + hi) / 2 + 1, hi, by rw [show ((lo : Int) + (hi : Int)) / 2 + 1 = (((lo + hi) / 2 + 1 : Nat) : Int) by omega], rfl, by omega, h2, h3, hd.trans hd2⟩
        case measure => simp [intOf]; omega
      · have ht : ¬ tlt y s := fun h => hb (hiff.1 h)
        rw [show (!decide (tlt y s)) = true by simp [ht]] at hcl
        have HCL := Lib.hid hcl
        clear hcl hy hiff ht
        go_wp2_with fail
        refine HCL.out.mono ?_
        rintro e w2 ⟨rfl, hd2⟩
        go_wp2_with fail
        go_round
        case rel => exact ⟨lo, (lo + hi) / 2, rfl, by rw [show ((lo : Int) + (hi : Int)) / 2 = (((lo + hi) / 2 : Nat) : Int) by omega], h1, by omega, by omega, hd.trans hd2⟩
        case measure => simp [intOf]; omega
    · obtain rfl : lo = p := by omega
      go_wp2_with fail
      go_ret
      exact ⟨by rw [← HP.out]; rfl, hd⟩
theorem placeOf_any (A : Option Addr) (n c : Nat) (L : List Tx) (s : Tx) (w : World) (hr : Reads w w.heap.size 1 A n (ts L)) (hn : n ≤ 140737488355328) (hL : RiseT L) :
    Calls Tryz.prog 48 #[.slice A n c, .string ⟨s.toArray⟩] w fun e w' => e = .returned (.int .u64 (whT L s : Int)) ∧ Below w.heap.size w w' := by
  have e1 : L.length = n := by have := hr.1; rw [ts_length] at this; omega
  have hpn : whT L s ≤ n := by have := whT_le L s; omega
  have hmf' := hmfP
  obtain ⟨W, hW⟩ : ∃ W, W = (w.alloc (.cells #[.slice A n c] 32)).alloc (.cells #[.string ⟨s.toArray⟩] 9) := ⟨_, rfl⟩
  have hb : Below w.heap.size w W := by rw [hW]; exact ((Below.refl _ _).alloc (Nat.le_refl _) _).alloc (by simp) _
  have HS := Lib.hid (search_any w.heap.size (w.heap.size + 1) A n c L s W (hr.next hb) hn (by rw [hW]; simp) (by rw [hW]; simp) hL)
  have HW := Lib.hid hW
  obtain ⟨p, hp⟩ : ∃ p, p = whT L s := ⟨_, rfl⟩
  rw [← hp] at hpn HS ⊢
  clear e1 hW hr hp
  go_enter Tryz.func48, Tryz.ntmps48
  go_wp2_with fail
  rw [← HW.out]
  refine HS.out.mono ?_
  rintro e w2 ⟨rfl, hd⟩
  go_wp2_with fail
  go_ret
  exact ⟨rfl, hd.below hb⟩
end Go.Proofs.YtppeagjklndidaaGreatDoor

/- A row that was laid last reads as its cells, whatever is frozen of it. No program. -/
namespace Go.Proofs.YtppeagjklndidaaGreatDoor
open Go.RowKit

/-- A row that was laid last reads as its cells, whatever is frozen of it. -/
theorem reads_laid (w : World) (cs : Array Value) (t : TypeId) (fr : Nat × Nat) (B n : Nat) (xs : List Value) (hB : w.heap.size < B) (hn : xs.length = n) (hx : cs.toList.take n = xs) :
    Reads (w.alloc (.cells cs t fr)) B 1 (some ⟨w.heap.size, 0, none⟩) n xs := by
  refine ⟨by omega, fun _ => ⟨_, rfl, hB, fun j u hu => ?_⟩⟩
  rw [plain_add, Nat.zero_add, cell_of_row _ _ j cs t fr (heap_alloc_new w _)]
  subst hx
  rw [List.getElem?_take] at hu
  split at hu
  · simpa using hu
  · cases hu
end Go.Proofs.YtppeagjklndidaaGreatDoor

/- Texts as bytes in new memory, over this program. No condition. -/
namespace Go.Proofs.YtppeagjklndidaaGreatDoor
open Go.RowKit
set_option linter.unusedVariables false
set_option linter.unusedSimpArgs false
set_option maxRecDepth 100000

/-- The room of the new bytes, and the world behind them. -/
def convC (W : World) (s : Tx) : Nat := grownCap W s.length 0 5
def convW (W : World) (s : Tx) : World := W.drew.alloc (.cells (bytesRow ⟨s.toArray⟩ (convC W s)) 5 ((bytesRow ⟨s.toArray⟩ (convC W s)).size, (bytesRow ⟨s.toArray⟩ (convC W s)).size + 1))
theorem conv_is (s : Tx) (W : World) : (convert 9 22 (.string ⟨s.toArray⟩)).run Tryz.prog W = .ok (.slice (some ⟨W.heap.size, 0, none⟩) s.length (convC W s)) (convW W s) := by
  have h := run_bytes_of_string (P := Tryz.prog) W 9 22 5 ⟨s.toArray⟩ Tryz.underlying9 Tryz.underlying22 Tryz.underlying5
  rw [size_enc] at h
  exact h
theorem conv_below (W : World) (s : Tx) : Below W.heap.size W (convW W s) := (Below.drew (Below.refl W.heap.size W)).alloc (Nat.le_refl _) _
theorem conv_reads (W : World) (s : Tx) : Reads (convW W s) (convW W s).heap.size 1 (some ⟨W.heap.size, 0, none⟩) s.length (bs (nb s)) := by
  refine reads_laid W.drew _ _ _ _ _ _ ?_ (by rw [bs_length, nb_length]) ?_
  · unfold convW; simp
  · unfold bytesRow
    rw [Array.toList_append, List.take_append_of_le_length (by simp), List.take_of_length_le (by simp)]
    simp [bs, nb]
theorem blob_nb (s : Tx) : vb (nb s).length ++ nb s = blbT s := by unfold blbT; rw [nb_length]
end Go.Proofs.YtppeagjklndidaaGreatDoor

/- Contracts of package num's functions: what they answer of which numbers and bytes, in new memory; nothing that was there changes. -/
namespace Go.Proofs.YtppeagjklndidaaGreatDoor
open Go.RowKit
set_option linter.unusedVariables false
set_option linter.unusedSimpArgs false
set_option maxRecDepth 100000

set_option maxHeartbeats 400000 in
theorem putVar_any (A : Option Addr) (n c v : Nat) (xs : List Value) (w : World) (hv : v < 18446744073709551616) (hr : Reads w w.heap.size 1 A n xs) (h1 : ∀ u ∈ xs, u.oneCell' = true) (hb : n ≤ 140737488355300) :
    Calls Tryz.prog 57 #[.slice A n c, .int .u64 (v : Int)] w (New w (xs ++ bs (vb v)) (n + (vb v).length)) := by
  obtain ⟨i0, hi0, hz0, hz1, hz2⟩ := info_parts info_u8
  go_enter Tryz.func57, Tryz.ntmps57
  go_wp2_with (go_at_call 83; refine (copied_any A n c 10 xs w hr h1 (by omega)).mono ?_; rintro e w1 ⟨u0, rfl, hown0, hb0⟩)
  go_loopw [5, 1] (fun out v1 wr => ∃ (pre : List Nat) (v' : Nat), pre ++ vb v' = vb v ∧ v' < 18446744073709551616 ∧ v1 = .int .u64 (v' : Int) ∧ wr.ownsRow w.heap.size 5 1 out (n + pre.length) (xs ++ bs pre) ∧ Below w.heap.size w wr)
    (fun _ v1 _ => (intOf v1).toNat)
  case atStart => exact ⟨[], v, rfl, hv, rfl, by simpa [bs] using hown0, hb0⟩
  case round =>
    obtain ⟨pre, v', hpre, hv', rfl, hown, hbl⟩ := hrel
    have hpl := congrArg List.length hpre
    have hl := vb_length v
    simp only [List.length_append] at hpl
    have hplen : pre.length ≤ 10 := by omega
    have Hpre := Lib.hid hpre
    clear hpre hpl
    have hsz := hbl.size
    by_cases hlt : 127 < v'
    · go_wp2_with (at_builtin
                   refine wpList_append_any _ rfl (.tmp 12) (.tmp 16) _ rfl w.heap.size 5 i0 _ 1 1 Tryz.underlying22 hi0 hz0 hz1 hz2 rfl (by omega) u5 (n + pre.length) (xs ++ bs pre) rfl
                     (hown.alloc _) (wr.heap.size + 1) (some ⟨wr.heap.size, 0, none⟩) 1 1 [.int .u8 (bits .or .u8 ((v' : Int) % 256) 128)] rfl (Reads.new wr _ _) (one_int _ _) (by unfold maxLen; omega) (by omega) (by simp; omega) ?_
                   intro v2 w2 hown2 hg2 hat2)
      have hbit : bits .or .u8 ((v' : Int) % 256) 128 = ((128 + v' % 128 : Nat) : Int) := by
        rw [show ((v' : Int) % 256) = ((v' % 256 : Nat) : Int) from rfl, show (128 : Int) = ((128 : Nat) : Int) from rfl, u8_or_nat _ _ (by omega) (by omega), bit7 _ (by omega)]
        congr 2; omega
      rw [bs_snoc xs pre _ _ hbit] at hown2
      have hvb := vb_big v' (by omega) hv'
      refine ⟨⟨pre ++ [128 + v' % 128], v' / 128, ?_, by omega, rfl, by simpa [Nat.add_assoc] using hown2, below_app hbl hown hsz hg2⟩, ?_⟩
      · rw [List.append_assoc, ← Hpre.out, hvb]; rfl
      · simp [intOf]; omega
    · go_wp2_with (at_builtin
                   refine wpList_append_any _ rfl (.tmp 18) (.tmp 21) _ rfl w.heap.size 5 i0 _ 1 1 Tryz.underlying22 hi0 hz0 hz1 hz2 rfl (by omega) u5 (n + pre.length) (xs ++ bs pre) rfl
                     (hown.alloc _) (wr.heap.size + 1) (some ⟨wr.heap.size, 0, none⟩) 1 1 [.int .u8 (v' : Int)] rfl (Reads.new wr _ _) (one_int _ _) (by unfold maxLen; omega) (by omega) (by simp; omega) ?_
                   intro v2 w2 hown2 hg2 hat2)
      go_ret
      have hvb := vb_small v' (by omega)
      have hpre := Hpre.out
      rw [hvb] at hpre
      rw [bs_snoc xs pre v' _ rfl, hpre] at hown2
      refine ⟨v2, rfl, ?_, below_app hbl hown hsz hg2⟩
      rw [← hpre] at hown2 ⊢
      simpa [Nat.add_assoc] using hown2
end Go.Proofs.YtppeagjklndidaaGreatDoor
