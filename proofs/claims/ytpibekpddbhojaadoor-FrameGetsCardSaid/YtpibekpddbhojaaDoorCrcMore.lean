/- Contracts of package crc's More and Sum. No condition beside the slice's own length. -/
import Derived.Test.YtpibekpddbhojaaDoorCrcTab
namespace Go.Proofs.YtpibekpddbhojaaDoor
open Go.RowKit
set_option linter.unusedVariables false
set_option maxRecDepth 100000

theorem not_u32 (s : Nat) (hs : s < 4294967296) : bits .xor .u32 IntKind.u32.max (s : Int) = ((4294967295 - s : Nat) : Int) := by
  have h : IntKind.u32.max = ((4294967295 : Nat) : Int) := rfl
  rw [h, u32_xor_nat 4294967295 s (by omega) hs, Nat.xor_comm, ← not_xor hs]
set_option maxHeartbeats 1000000 in
theorem more_any (s : Nat) (A : Option Addr) (n c : Nat) (l : List Nat) (w : World) (hs : s < 4294967296) (hr : Reads w w.heap.size 1 A n (bs l)) (hl : ∀ b ∈ l, b < 256) (hn : n ≤ 140737488355328) :
    Calls Tryd.prog 30 #[.int .u32 (s : Int), .slice A n c] w fun e w' => e = .returned (.int .u32 (moreN s l : Int)) ∧ Below w.heap.size w w' := by
  have e1 : l.length = n := by have := hr.1; rw [bs_length] at this; omega
  have E1 := Lib.hid e1; clear e1
  have HL := Lib.hid hl; clear hl
  have hz := (zero_of_info info_tab).1
  have hsz := Lib.hid (zero_of_info info_tab).2
  go_enter Tryd.func30, Tryd.ntmps30
  go_wp2_with fail
  refine (remainders_any w).mono ?_
  rintro e w1 ⟨rfl, hb1⟩
  have hB := Blk.new w1 75 (Array.replicate 256 (.int .u32 0))
  have hsc := run_storeCells_new (P := Tryd.prog) w1 75 (Array.replicate 256 (.int .u32 0)) (tabV 256) (by rw [tabV_size]; exact hsz.out) (by rw [tabV_size]; simp) (tabV_one _)
  have hts := tabV_size 256
  obtain ⟨r0, hr0⟩ : ∃ r0 : Nat, 4294967295 - s = r0 := ⟨_, rfl⟩
  have hnot := not_u32 s hs
  rw [hr0] at hnot
  have H0 := Lib.hid hr0
  have hr0l : r0 < 4294967296 := by omega
  clear hr0
  have hb2 : Below w.heap.size w (w1.alloc (.cells (tabV 256) 75)) := hb1.alloc hb1.size _
  have hcell : ∀ j, (w1.alloc (.cells (tabV 256) 75)).cell? ⟨w1.heap.size, j, none⟩ = (tabV 256)[j]? := (Blk.new w1 75 (tabV 256)).cell
  have HC := Lib.hid hcell; clear hcell
  go_wp2_with fail
  obtain ⟨w2, hw2⟩ : ∃ w2 : World, w2 = w1.alloc (.cells (tabV 256) 75) := ⟨_, rfl⟩
  rw [← hw2] at hb2 HC
  rw [← hw2]
  have hr2 : Reads w2 w.heap.size 1 A n (bs l) := hr.below hb2 |>.more (Nat.le_refl _)
  clear hw2 hsc hts hB hz
  go_loopg [6, 14] n (fun g s6 s14 wx => ∃ k v : Nat, k + g = n ∧ s14 = .int .i64 (k : Int) ∧ s6 = .int .u32 (v : Int) ∧ Hid (v = crc r0 (l.take k)) ∧ v < 4294967296 ∧ wx = w2)
  case atStart => exact ⟨0, r0, by omega, rfl, rfl, Lib.hid rfl, hr0l, rfl⟩
  case round =>
    obtain ⟨k, v, hkg, rfl, rfl, hv, hvl, rfl⟩ := hrel
    cases gk with
    | zero =>
      obtain rfl : k = n := by omega
      have hnv := not_u32 v hvl
      clear hkg
      go_wp2_with fail
      go_ret
      refine ⟨ret_of (congrArg (Value.int .u32) ?_), hb2⟩
      rw [hv.out, List.take_of_length_le (by rw [E1.out]; omega), ← H0.out]
      rfl
    | succ g =>
      have hk : k < n := by omega
      have hk2 : (k : Int) < (n : Int) := by omega
      obtain ⟨ad, u, rfl, _, hu, hc⟩ := hr2.at_ hk
      obtain ⟨b, hb, rfl⟩ := bs_at hu
      have hb256 := HL.out b (List.mem_of_getElem? hb)
      have HB := Lib.hid hb
      clear hb hu
      have hidx : bits .xor .u8 ((v : Int) % 256) (b : Int) = ((v % 256 ^^^ b : Nat) : Int) := u8_xor_nat (v % 256) b (by omega) hb256
      have hlt : v % 256 ^^^ b < 256 := Nat.xor_lt_two_pow (n := 8) (by omega) hb256
      obtain ⟨ix, hix⟩ : ∃ ix : Nat, v % 256 ^^^ b = ix := ⟨_, rfl⟩
      rw [hix] at hidx hlt
      have hcx := HC.out ix
      rw [tabV_at ix hlt] at hcx
      have hx : bits .xor .u32 ((v : Int) / 256) ((sts 8 ix : Nat) : Int) = ((crc r0 (l.take (k + 1)) : Nat) : Int) ∧ crc r0 (l.take (k + 1)) < 4294967296 := by
        have e : l.take (k + 1) = l.take k ++ [b] := by rw [List.take_add_one, HB.out]; rfl
        have h1 : sts 8 ix < 4294967296 := sts_lt 8 (by omega)
        rw [e, crc_snoc, ← hv.out, ← byte_tab v b hb256, hix]
        exact ⟨u32_xor_nat (v / 256) (sts 8 ix) (by omega) h1, Nat.xor_lt_two_pow (n := 32) (by omega) h1⟩
      obtain ⟨v2, hv2⟩ : ∃ v2 : Nat, crc r0 (l.take (k + 1)) = v2 := ⟨_, rfl⟩
      rw [hv2] at hx
      obtain ⟨hx, hx2⟩ := hx
      have HV2 := Lib.hid hv2
      clear hv2 hix
      go_wp2_with fail
      go_roundg g
      case measure => omega
      case rel => exact ⟨k + 1, v2, by omega, by go_num, rfl, Lib.hid HV2.out.symm, hx2, rfl⟩
theorem sum_any (A : Option Addr) (n c : Nat) (l : List Nat) (w : World) (hr : Reads w w.heap.size 1 A n (bs l)) (hl : ∀ b ∈ l, b < 256) (hn : n ≤ 140737488355328) :
    Calls Tryd.prog 31 #[.slice A n c] w fun e w' => e = .returned (.int .u32 (sumN l : Int)) ∧ Below w.heap.size w w' := by
  go_enter Tryd.func31, Tryd.ntmps31
  go_wp2_with fail
  refine (more_any 0 A n c l w (by omega) hr hl hn).mono ?_
  rintro e w1 ⟨rfl, hb1⟩
  go_wp2_with fail
  go_ret
  exact ⟨rfl, hb1⟩
end Go.Proofs.YtpibekpddbhojaaDoor
