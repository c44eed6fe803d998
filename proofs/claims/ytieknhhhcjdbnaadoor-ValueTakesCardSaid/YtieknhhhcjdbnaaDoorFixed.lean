/- Contract of package num's fixed: of at most eight bytes the number that they are, the lowest one first. -/
import Derived.Test.YtieknhhhcjdbnaaDoorJ2
namespace Go.Proofs.YtieknhhhcjdbnaaDoor
open Go.RowKit
set_option linter.unusedVariables false
set_option linter.unusedSimpArgs false
set_option maxRecDepth 100000
theorem ors (X Y : Int) (x y i : Nat) (hX : X = (x : Int)) (hY : Y = (y : Int)) (h : x % 2 ^ i = 0) (hy : y < 2 ^ i) (hx2 : x < 18446744073709551616) (hy2 : y < 18446744073709551616) : bits .or .u64 X Y = ((x + y : Nat) : Int) := by
  subst hX; subst hY
  rw [u64_or_nat _ _ hx2 hy2, nat_join i x y h hy]
theorem or_0 : (0 : Int) = ((unfx [] : Nat) : Int) := by
  rfl
set_option maxRecDepth 10000 in
theorem fixed_0 (c : Nat) (A : Option Addr) (w : World)   :
    Calls Tryd.prog 54 #[.slice A 0 c] w fun e w' => e = .returned (.int .u64 ((unfx [] : Nat) : Int)) ∧ w = w' := by
  go_enter Tryd.func54, Tryd.ntmps54
  go_wp2_with fail
  go_ret
  exact ⟨rfl, rfl⟩
theorem or_1 (b0 : Nat) (hb0 : b0 < 256) : (bits .or .u64 0 (b0 : Int)) = ((unfx [b0] : Nat) : Int) := by
  rw [ors _ (b0 : Int) (0) b0 8 (by first | rfl | simp) (by first | rfl | simp) (by omega) (by omega) (by omega) (by omega)]
  refine congrArg Nat.cast ?_
  simp only [unfx]
  omega
set_option maxRecDepth 10000 in
theorem fixed_1 (b off c b0 : Nat) (w : World) (hb0 : b0 < 256) (h0 : w.cell? ⟨b, off, none⟩ = some (.int .u8 (b0 : Int))) :
    Calls Tryd.prog 54 #[.slice (some ⟨b, off, none⟩) 1 c] w fun e w' => e = .returned (.int .u64 ((unfx [b0] : Nat) : Int)) ∧ w = w' := by
  have HO := Lib.hid (or_1 b0 hb0)
  go_enter Tryd.func54, Tryd.ntmps54
  go_wp2_with fail
  go_ret
  exact ⟨ret_of (congrArg (Value.int .u64) HO.out), rfl⟩
theorem or_2 (b0 b1 : Nat) (hb0 : b0 < 256) (hb1 : b1 < 256) : (bits .or .u64 (bits .or .u64 0 ((b1 : Int) * 256)) (b0 : Int)) = ((unfx [b0, b1] : Nat) : Int) := by
  rw [ors _ ((b1 : Int) * 256) (0) (b1 * 256) 16 (by first | rfl | simp) (by first | rfl | simp) (by omega) (by omega) (by omega) (by omega)]
  rw [ors _ (b0 : Int) (0 + (b1 * 256)) b0 8 (by first | rfl | simp) (by first | rfl | simp) (by omega) (by omega) (by omega) (by omega)]
  refine congrArg Nat.cast ?_
  simp only [unfx]
  omega
set_option maxRecDepth 10000 in
theorem fixed_2 (b off c b0 b1 : Nat) (w : World) (hb0 : b0 < 256) (hb1 : b1 < 256) (h0 : w.cell? ⟨b, off, none⟩ = some (.int .u8 (b0 : Int))) (h1 : w.cell? ⟨b, off + 1, none⟩ = some (.int .u8 (b1 : Int))) :
    Calls Tryd.prog 54 #[.slice (some ⟨b, off, none⟩) 2 c] w fun e w' => e = .returned (.int .u64 ((unfx [b0, b1] : Nat) : Int)) ∧ w = w' := by
  have HO := Lib.hid (or_2 b0 b1 hb0 hb1)
  go_enter Tryd.func54, Tryd.ntmps54
  go_wp2_with fail
  go_ret
  exact ⟨ret_of (congrArg (Value.int .u64) HO.out), rfl⟩
theorem or_3 (b0 b1 b2 : Nat) (hb0 : b0 < 256) (hb1 : b1 < 256) (hb2 : b2 < 256) : (bits .or .u64 (bits .or .u64 (bits .or .u64 0 ((b2 : Int) * 65536)) ((b1 : Int) * 256)) (b0 : Int)) = ((unfx [b0, b1, b2] : Nat) : Int) := by
  rw [ors _ ((b2 : Int) * 65536) (0) (b2 * 65536) 24 (by first | rfl | simp) (by first | rfl | simp) (by omega) (by omega) (by omega) (by omega)]
  rw [ors _ ((b1 : Int) * 256) (0 + (b2 * 65536)) (b1 * 256) 16 (by first | rfl | simp) (by first | rfl | simp) (by omega) (by omega) (by omega) (by omega)]
  rw [ors _ (b0 : Int) (0 + (b2 * 65536) + (b1 * 256)) b0 8 (by first | rfl | simp) (by first | rfl | simp) (by omega) (by omega) (by omega) (by omega)]
  refine congrArg Nat.cast ?_
  simp only [unfx]
  omega
set_option maxRecDepth 10000 in
theorem fixed_3 (b off c b0 b1 b2 : Nat) (w : World) (hb0 : b0 < 256) (hb1 : b1 < 256) (hb2 : b2 < 256) (h0 : w.cell? ⟨b, off, none⟩ = some (.int .u8 (b0 : Int))) (h1 : w.cell? ⟨b, off + 1, none⟩ = some (.int .u8 (b1 : Int))) (h2 : w.cell? ⟨b, off + 2, none⟩ = some (.int .u8 (b2 : Int))) :
    Calls Tryd.prog 54 #[.slice (some ⟨b, off, none⟩) 3 c] w fun e w' => e = .returned (.int .u64 ((unfx [b0, b1, b2] : Nat) : Int)) ∧ w = w' := by
  have HO := Lib.hid (or_3 b0 b1 b2 hb0 hb1 hb2)
  go_enter Tryd.func54, Tryd.ntmps54
  go_wp2_with fail
  go_ret
  exact ⟨ret_of (congrArg (Value.int .u64) HO.out), rfl⟩
theorem or_4 (b0 b1 b2 b3 : Nat) (hb0 : b0 < 256) (hb1 : b1 < 256) (hb2 : b2 < 256) (hb3 : b3 < 256) : (bits .or .u64 (bits .or .u64 (bits .or .u64 (bits .or .u64 0 ((b3 : Int) * 16777216)) ((b2 : Int) * 65536)) ((b1 : Int) * 256)) (b0 : Int)) = ((unfx [b0, b1, b2, b3] : Nat) : Int) := by
  rw [ors _ ((b3 : Int) * 16777216) (0) (b3 * 16777216) 32 (by first | rfl | simp) (by first | rfl | simp) (by omega) (by omega) (by omega) (by omega)]
  rw [ors _ ((b2 : Int) * 65536) (0 + (b3 * 16777216)) (b2 * 65536) 24 (by first | rfl | simp) (by first | rfl | simp) (by omega) (by omega) (by omega) (by omega)]
  rw [ors _ ((b1 : Int) * 256) (0 + (b3 * 16777216) + (b2 * 65536)) (b1 * 256) 16 (by first | rfl | simp) (by first | rfl | simp) (by omega) (by omega) (by omega) (by omega)]
  rw [ors _ (b0 : Int) (0 + (b3 * 16777216) + (b2 * 65536) + (b1 * 256)) b0 8 (by first | rfl | simp) (by first | rfl | simp) (by omega) (by omega) (by omega) (by omega)]
  refine congrArg Nat.cast ?_
  simp only [unfx]
  omega
set_option maxRecDepth 10000 in
theorem fixed_4 (b off c b0 b1 b2 b3 : Nat) (w : World) (hb0 : b0 < 256) (hb1 : b1 < 256) (hb2 : b2 < 256) (hb3 : b3 < 256) (h0 : w.cell? ⟨b, off, none⟩ = some (.int .u8 (b0 : Int))) (h1 : w.cell? ⟨b, off + 1, none⟩ = some (.int .u8 (b1 : Int))) (h2 : w.cell? ⟨b, off + 2, none⟩ = some (.int .u8 (b2 : Int))) (h3 : w.cell? ⟨b, off + 3, none⟩ = some (.int .u8 (b3 : Int))) :
    Calls Tryd.prog 54 #[.slice (some ⟨b, off, none⟩) 4 c] w fun e w' => e = .returned (.int .u64 ((unfx [b0, b1, b2, b3] : Nat) : Int)) ∧ w = w' := by
  have HO := Lib.hid (or_4 b0 b1 b2 b3 hb0 hb1 hb2 hb3)
  go_enter Tryd.func54, Tryd.ntmps54
  go_wp2_with fail
  go_ret
  exact ⟨ret_of (congrArg (Value.int .u64) HO.out), rfl⟩
theorem or_5 (b0 b1 b2 b3 b4 : Nat) (hb0 : b0 < 256) (hb1 : b1 < 256) (hb2 : b2 < 256) (hb3 : b3 < 256) (hb4 : b4 < 256) : (bits .or .u64 (bits .or .u64 (bits .or .u64 (bits .or .u64 (bits .or .u64 0 ((b4 : Int) * 4294967296)) ((b3 : Int) * 16777216)) ((b2 : Int) * 65536)) ((b1 : Int) * 256)) (b0 : Int)) = ((unfx [b0, b1, b2, b3, b4] : Nat) : Int) := by
  rw [ors _ ((b4 : Int) * 4294967296) (0) (b4 * 4294967296) 40 (by first | rfl | simp) (by first | rfl | simp) (by omega) (by omega) (by omega) (by omega)]
  rw [ors _ ((b3 : Int) * 16777216) (0 + (b4 * 4294967296)) (b3 * 16777216) 32 (by first | rfl | simp) (by first | rfl | simp) (by omega) (by omega) (by omega) (by omega)]
  rw [ors _ ((b2 : Int) * 65536) (0 + (b4 * 4294967296) + (b3 * 16777216)) (b2 * 65536) 24 (by first | rfl | simp) (by first | rfl | simp) (by omega) (by omega) (by omega) (by omega)]
  rw [ors _ ((b1 : Int) * 256) (0 + (b4 * 4294967296) + (b3 * 16777216) + (b2 * 65536)) (b1 * 256) 16 (by first | rfl | simp) (by first | rfl | simp) (by omega) (by omega) (by omega) (by omega)]
  rw [ors _ (b0 : Int) (0 + (b4 * 4294967296) + (b3 * 16777216) + (b2 * 65536) + (b1 * 256)) b0 8 (by first | rfl | simp) (by first | rfl | simp) (by omega) (by omega) (by omega) (by omega)]
  refine congrArg Nat.cast ?_
  simp only [unfx]
  omega
set_option maxRecDepth 10000 in
theorem fixed_5 (b off c b0 b1 b2 b3 b4 : Nat) (w : World) (hb0 : b0 < 256) (hb1 : b1 < 256) (hb2 : b2 < 256) (hb3 : b3 < 256) (hb4 : b4 < 256) (h0 : w.cell? ⟨b, off, none⟩ = some (.int .u8 (b0 : Int))) (h1 : w.cell? ⟨b, off + 1, none⟩ = some (.int .u8 (b1 : Int))) (h2 : w.cell? ⟨b, off + 2, none⟩ = some (.int .u8 (b2 : Int))) (h3 : w.cell? ⟨b, off + 3, none⟩ = some (.int .u8 (b3 : Int))) (h4 : w.cell? ⟨b, off + 4, none⟩ = some (.int .u8 (b4 : Int))) :
    Calls Tryd.prog 54 #[.slice (some ⟨b, off, none⟩) 5 c] w fun e w' => e = .returned (.int .u64 ((unfx [b0, b1, b2, b3, b4] : Nat) : Int)) ∧ w = w' := by
  have HO := Lib.hid (or_5 b0 b1 b2 b3 b4 hb0 hb1 hb2 hb3 hb4)
  go_enter Tryd.func54, Tryd.ntmps54
  go_wp2_with fail
  go_ret
  exact ⟨ret_of (congrArg (Value.int .u64) HO.out), rfl⟩
theorem or_6 (b0 b1 b2 b3 b4 b5 : Nat) (hb0 : b0 < 256) (hb1 : b1 < 256) (hb2 : b2 < 256) (hb3 : b3 < 256) (hb4 : b4 < 256) (hb5 : b5 < 256) : (bits .or .u64 (bits .or .u64 (bits .or .u64 (bits .or .u64 (bits .or .u64 (bits .or .u64 0 ((b5 : Int) * 1099511627776)) ((b4 : Int) * 4294967296)) ((b3 : Int) * 16777216)) ((b2 : Int) * 65536)) ((b1 : Int) * 256)) (b0 : Int)) = ((unfx [b0, b1, b2, b3, b4, b5] : Nat) : Int) := by
  rw [ors _ ((b5 : Int) * 1099511627776) (0) (b5 * 1099511627776) 48 (by first | rfl | simp) (by first | rfl | simp) (by omega) (by omega) (by omega) (by omega)]
  rw [ors _ ((b4 : Int) * 4294967296) (0 + (b5 * 1099511627776)) (b4 * 4294967296) 40 (by first | rfl | simp) (by first | rfl | simp) (by omega) (by omega) (by omega) (by omega)]
  rw [ors _ ((b3 : Int) * 16777216) (0 + (b5 * 1099511627776) + (b4 * 4294967296)) (b3 * 16777216) 32 (by first | rfl | simp) (by first | rfl | simp) (by omega) (by omega) (by omega) (by omega)]
  rw [ors _ ((b2 : Int) * 65536) (0 + (b5 * 1099511627776) + (b4 * 4294967296) + (b3 * 16777216)) (b2 * 65536) 24 (by first | rfl | simp) (by first | rfl | simp) (by omega) (by omega) (by omega) (by omega)]
  rw [ors _ ((b1 : Int) * 256) (0 + (b5 * 1099511627776) + (b4 * 4294967296) + (b3 * 16777216) + (b2 * 65536)) (b1 * 256) 16 (by first | rfl | simp) (by first | rfl | simp) (by omega) (by omega) (by omega) (by omega)]
  rw [ors _ (b0 : Int) (0 + (b5 * 1099511627776) + (b4 * 4294967296) + (b3 * 16777216) + (b2 * 65536) + (b1 * 256)) b0 8 (by first | rfl | simp) (by first | rfl | simp) (by omega) (by omega) (by omega) (by omega)]
  refine congrArg Nat.cast ?_
  simp only [unfx]
  omega
set_option maxRecDepth 10000 in
theorem fixed_6 (b off c b0 b1 b2 b3 b4 b5 : Nat) (w : World) (hb0 : b0 < 256) (hb1 : b1 < 256) (hb2 : b2 < 256) (hb3 : b3 < 256) (hb4 : b4 < 256) (hb5 : b5 < 256) (h0 : w.cell? ⟨b, off, none⟩ = some (.int .u8 (b0 : Int))) (h1 : w.cell? ⟨b, off + 1, none⟩ = some (.int .u8 (b1 : Int))) (h2 : w.cell? ⟨b, off + 2, none⟩ = some (.int .u8 (b2 : Int))) (h3 : w.cell? ⟨b, off + 3, none⟩ = some (.int .u8 (b3 : Int))) (h4 : w.cell? ⟨b, off + 4, none⟩ = some (.int .u8 (b4 : Int))) (h5 : w.cell? ⟨b, off + 5, none⟩ = some (.int .u8 (b5 : Int))) :
    Calls Tryd.prog 54 #[.slice (some ⟨b, off, none⟩) 6 c] w fun e w' => e = .returned (.int .u64 ((unfx [b0, b1, b2, b3, b4, b5] : Nat) : Int)) ∧ w = w' := by
  have HO := Lib.hid (or_6 b0 b1 b2 b3 b4 b5 hb0 hb1 hb2 hb3 hb4 hb5)
  go_enter Tryd.func54, Tryd.ntmps54
  go_wp2_with fail
  go_ret
  exact ⟨ret_of (congrArg (Value.int .u64) HO.out), rfl⟩
theorem or_7 (b0 b1 b2 b3 b4 b5 b6 : Nat) (hb0 : b0 < 256) (hb1 : b1 < 256) (hb2 : b2 < 256) (hb3 : b3 < 256) (hb4 : b4 < 256) (hb5 : b5 < 256) (hb6 : b6 < 256) : (bits .or .u64 (bits .or .u64 (bits .or .u64 (bits .or .u64 (bits .or .u64 (bits .or .u64 (bits .or .u64 0 ((b6 : Int) * 281474976710656)) ((b5 : Int) * 1099511627776)) ((b4 : Int) * 4294967296)) ((b3 : Int) * 16777216)) ((b2 : Int) * 65536)) ((b1 : Int) * 256)) (b0 : Int)) = ((unfx [b0, b1, b2, b3, b4, b5, b6] : Nat) : Int) := by
  rw [ors _ ((b6 : Int) * 281474976710656) (0) (b6 * 281474976710656) 56 (by first | rfl | simp) (by first | rfl | simp) (by omega) (by omega) (by omega) (by omega)]
  rw [ors _ ((b5 : Int) * 1099511627776) (0 + (b6 * 281474976710656)) (b5 * 1099511627776) 48 (by first | rfl | simp) (by first | rfl | simp) (by omega) (by omega) (by omega) (by omega)]
  rw [ors _ ((b4 : Int) * 4294967296) (0 + (b6 * 281474976710656) + (b5 * 1099511627776)) (b4 * 4294967296) 40 (by first | rfl | simp) (by first | rfl | simp) (by omega) (by omega) (by omega) (by omega)]
  rw [ors _ ((b3 : Int) * 16777216) (0 + (b6 * 281474976710656) + (b5 * 1099511627776) + (b4 * 4294967296)) (b3 * 16777216) 32 (by first | rfl | simp) (by first | rfl | simp) (by omega) (by omega) (by omega) (by omega)]
  rw [ors _ ((b2 : Int) * 65536) (0 + (b6 * 281474976710656) + (b5 * 1099511627776) + (b4 * 4294967296) + (b3 * 16777216)) (b2 * 65536) 24 (by first | rfl | simp) (by first | rfl | simp) (by omega) (by omega) (by omega) (by omega)]
  rw [ors _ ((b1 : Int) * 256) (0 + (b6 * 281474976710656) + (b5 * 1099511627776) + (b4 * 4294967296) + (b3 * 16777216) + (b2 * 65536)) (b1 * 256) 16 (by first | rfl | simp) (by first | rfl | simp) (by omega) (by omega) (by omega) (by omega)]
  rw [ors _ (b0 : Int) (0 + (b6 * 281474976710656) + (b5 * 1099511627776) + (b4 * 4294967296) + (b3 * 16777216) + (b2 * 65536) + (b1 * 256)) b0 8 (by first | rfl | simp) (by first | rfl | simp) (by omega) (by omega) (by omega) (by omega)]
  refine congrArg Nat.cast ?_
  simp only [unfx]
  omega
set_option maxRecDepth 10000 in
theorem fixed_7 (b off c b0 b1 b2 b3 b4 b5 b6 : Nat) (w : World) (hb0 : b0 < 256) (hb1 : b1 < 256) (hb2 : b2 < 256) (hb3 : b3 < 256) (hb4 : b4 < 256) (hb5 : b5 < 256) (hb6 : b6 < 256) (h0 : w.cell? ⟨b, off, none⟩ = some (.int .u8 (b0 : Int))) (h1 : w.cell? ⟨b, off + 1, none⟩ = some (.int .u8 (b1 : Int))) (h2 : w.cell? ⟨b, off + 2, none⟩ = some (.int .u8 (b2 : Int))) (h3 : w.cell? ⟨b, off + 3, none⟩ = some (.int .u8 (b3 : Int))) (h4 : w.cell? ⟨b, off + 4, none⟩ = some (.int .u8 (b4 : Int))) (h5 : w.cell? ⟨b, off + 5, none⟩ = some (.int .u8 (b5 : Int))) (h6 : w.cell? ⟨b, off + 6, none⟩ = some (.int .u8 (b6 : Int))) :
    Calls Tryd.prog 54 #[.slice (some ⟨b, off, none⟩) 7 c] w fun e w' => e = .returned (.int .u64 ((unfx [b0, b1, b2, b3, b4, b5, b6] : Nat) : Int)) ∧ w = w' := by
  have HO := Lib.hid (or_7 b0 b1 b2 b3 b4 b5 b6 hb0 hb1 hb2 hb3 hb4 hb5 hb6)
  go_enter Tryd.func54, Tryd.ntmps54
  go_wp2_with fail
  go_ret
  exact ⟨ret_of (congrArg (Value.int .u64) HO.out), rfl⟩
theorem or_8 (b0 b1 b2 b3 b4 b5 b6 b7 : Nat) (hb0 : b0 < 256) (hb1 : b1 < 256) (hb2 : b2 < 256) (hb3 : b3 < 256) (hb4 : b4 < 256) (hb5 : b5 < 256) (hb6 : b6 < 256) (hb7 : b7 < 256) : (bits .or .u64 (bits .or .u64 (bits .or .u64 (bits .or .u64 (bits .or .u64 (bits .or .u64 (bits .or .u64 (bits .or .u64 0 ((b7 : Int) * 72057594037927936)) ((b6 : Int) * 281474976710656)) ((b5 : Int) * 1099511627776)) ((b4 : Int) * 4294967296)) ((b3 : Int) * 16777216)) ((b2 : Int) * 65536)) ((b1 : Int) * 256)) (b0 : Int)) = ((unfx [b0, b1, b2, b3, b4, b5, b6, b7] : Nat) : Int) := by
  rw [ors _ ((b7 : Int) * 72057594037927936) (0) (b7 * 72057594037927936) 64 (by first | rfl | simp) (by first | rfl | simp) (by omega) (by omega) (by omega) (by omega)]
  rw [ors _ ((b6 : Int) * 281474976710656) (0 + (b7 * 72057594037927936)) (b6 * 281474976710656) 56 (by first | rfl | simp) (by first | rfl | simp) (by omega) (by omega) (by omega) (by omega)]
  rw [ors _ ((b5 : Int) * 1099511627776) (0 + (b7 * 72057594037927936) + (b6 * 281474976710656)) (b5 * 1099511627776) 48 (by first | rfl | simp) (by first | rfl | simp) (by omega) (by omega) (by omega) (by omega)]
  rw [ors _ ((b4 : Int) * 4294967296) (0 + (b7 * 72057594037927936) + (b6 * 281474976710656) + (b5 * 1099511627776)) (b4 * 4294967296) 40 (by first | rfl | simp) (by first | rfl | simp) (by omega) (by omega) (by omega) (by omega)]
  rw [ors _ ((b3 : Int) * 16777216) (0 + (b7 * 72057594037927936) + (b6 * 281474976710656) + (b5 * 1099511627776) + (b4 * 4294967296)) (b3 * 16777216) 32 (by first | rfl | simp) (by first | rfl | simp) (by omega) (by omega) (by omega) (by omega)]
  rw [ors _ ((b2 : Int) * 65536) (0 + (b7 * 72057594037927936) + (b6 * 281474976710656) + (b5 * 1099511627776) + (b4 * 4294967296) + (b3 * 16777216)) (b2 * 65536) 24 (by first | rfl | simp) (by first | rfl | simp) (by omega) (by omega) (by omega) (by omega)]
  rw [ors _ ((b1 : Int) * 256) (0 + (b7 * 72057594037927936) + (b6 * 281474976710656) + (b5 * 1099511627776) + (b4 * 4294967296) + (b3 * 16777216) + (b2 * 65536)) (b1 * 256) 16 (by first | rfl | simp) (by first | rfl | simp) (by omega) (by omega) (by omega) (by omega)]
  rw [ors _ (b0 : Int) (0 + (b7 * 72057594037927936) + (b6 * 281474976710656) + (b5 * 1099511627776) + (b4 * 4294967296) + (b3 * 16777216) + (b2 * 65536) + (b1 * 256)) b0 8 (by first | rfl | simp) (by first | rfl | simp) (by omega) (by omega) (by omega) (by omega)]
  refine congrArg Nat.cast ?_
  simp only [unfx]
  omega
set_option maxRecDepth 10000 in
theorem fixed_8 (b off c b0 b1 b2 b3 b4 b5 b6 b7 : Nat) (w : World) (hb0 : b0 < 256) (hb1 : b1 < 256) (hb2 : b2 < 256) (hb3 : b3 < 256) (hb4 : b4 < 256) (hb5 : b5 < 256) (hb6 : b6 < 256) (hb7 : b7 < 256) (h0 : w.cell? ⟨b, off, none⟩ = some (.int .u8 (b0 : Int))) (h1 : w.cell? ⟨b, off + 1, none⟩ = some (.int .u8 (b1 : Int))) (h2 : w.cell? ⟨b, off + 2, none⟩ = some (.int .u8 (b2 : Int))) (h3 : w.cell? ⟨b, off + 3, none⟩ = some (.int .u8 (b3 : Int))) (h4 : w.cell? ⟨b, off + 4, none⟩ = some (.int .u8 (b4 : Int))) (h5 : w.cell? ⟨b, off + 5, none⟩ = some (.int .u8 (b5 : Int))) (h6 : w.cell? ⟨b, off + 6, none⟩ = some (.int .u8 (b6 : Int))) (h7 : w.cell? ⟨b, off + 7, none⟩ = some (.int .u8 (b7 : Int))) :
    Calls Tryd.prog 54 #[.slice (some ⟨b, off, none⟩) 8 c] w fun e w' => e = .returned (.int .u64 ((unfx [b0, b1, b2, b3, b4, b5, b6, b7] : Nat) : Int)) ∧ w = w' := by
  have HO := Lib.hid (or_8 b0 b1 b2 b3 b4 b5 b6 b7 hb0 hb1 hb2 hb3 hb4 hb5 hb6 hb7)
  go_enter Tryd.func54, Tryd.ntmps54
  go_wp2_with fail
  go_ret
  exact ⟨ret_of (congrArg (Value.int .u64) HO.out), rfl⟩

theorem fixed_any {w : World} {B : Nat} {A : Option Addr} {n : Nat} {l : List Nat} (c : Nat) (h : Reads w B 1 A n (bs l)) (hn : n ≤ 8) (hb : ∀ b ∈ l, b < 256) :
    Calls Tryd.prog 54 #[.slice A n c] w fun e w' => e = .returned (.int .u64 ((unfx l : Nat) : Int)) ∧ w = w' := by
  have hl : l.length = n := by have := h.1; rw [bs_length] at this; omega
  rcases Nat.eq_zero_or_pos n with h0 | h0
  · subst h0
    obtain rfl := List.eq_nil_of_length_eq_zero hl
    exact fixed_0 c A w
  · obtain ⟨b, off, rfl, _, hc⟩ := h.plain h0
    subst hl
    rcases l with _ | ⟨x0, _ | ⟨x1, _ | ⟨x2, _ | ⟨x3, _ | ⟨x4, _ | ⟨x5, _ | ⟨x6, _ | ⟨x7, _ | ⟨x8, r⟩⟩⟩⟩⟩⟩⟩⟩⟩
    · simp at h0
    · exact fixed_1 b off c x0 w (hb x0 (by simp)) (hc 0 _ rfl)
    · exact fixed_2 b off c x0 x1 w (hb x0 (by simp)) (hb x1 (by simp)) (hc 0 _ rfl) (hc 1 _ rfl)
    · exact fixed_3 b off c x0 x1 x2 w (hb x0 (by simp)) (hb x1 (by simp)) (hb x2 (by simp)) (hc 0 _ rfl) (hc 1 _ rfl) (hc 2 _ rfl)
    · exact fixed_4 b off c x0 x1 x2 x3 w (hb x0 (by simp)) (hb x1 (by simp)) (hb x2 (by simp)) (hb x3 (by simp)) (hc 0 _ rfl) (hc 1 _ rfl) (hc 2 _ rfl) (hc 3 _ rfl)
    · exact fixed_5 b off c x0 x1 x2 x3 x4 w (hb x0 (by simp)) (hb x1 (by simp)) (hb x2 (by simp)) (hb x3 (by simp)) (hb x4 (by simp)) (hc 0 _ rfl) (hc 1 _ rfl) (hc 2 _ rfl) (hc 3 _ rfl) (hc 4 _ rfl)
    · exact fixed_6 b off c x0 x1 x2 x3 x4 x5 w (hb x0 (by simp)) (hb x1 (by simp)) (hb x2 (by simp)) (hb x3 (by simp)) (hb x4 (by simp)) (hb x5 (by simp)) (hc 0 _ rfl) (hc 1 _ rfl) (hc 2 _ rfl) (hc 3 _ rfl) (hc 4 _ rfl) (hc 5 _ rfl)
    · exact fixed_7 b off c x0 x1 x2 x3 x4 x5 x6 w (hb x0 (by simp)) (hb x1 (by simp)) (hb x2 (by simp)) (hb x3 (by simp)) (hb x4 (by simp)) (hb x5 (by simp)) (hb x6 (by simp)) (hc 0 _ rfl) (hc 1 _ rfl) (hc 2 _ rfl) (hc 3 _ rfl) (hc 4 _ rfl) (hc 5 _ rfl) (hc 6 _ rfl)
    · exact fixed_8 b off c x0 x1 x2 x3 x4 x5 x6 x7 w (hb x0 (by simp)) (hb x1 (by simp)) (hb x2 (by simp)) (hb x3 (by simp)) (hb x4 (by simp)) (hb x5 (by simp)) (hb x6 (by simp)) (hb x7 (by simp)) (hc 0 _ rfl) (hc 1 _ rfl) (hc 2 _ rfl) (hc 3 _ rfl) (hc 4 _ rfl) (hc 5 _ rfl) (hc 6 _ rfl) (hc 7 _ rfl)
    · simp at hn
end Go.Proofs.YtieknhhhcjdbnaaDoor
