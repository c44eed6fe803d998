import Derived.Deep.QuietTactic
import Derived.BigQuiet
import Derived.Test.YticanhidahkhfaaGreatDoorJ1
import Derived.WalkSpells
import Derived.Test.YticanhidahkhfaaGreatDoorJ2
import Derived.Deep.RegionWith
import Derived.StillTailTactics
namespace Go.Proofs.YticanhidahkhfaaGreatDoor
open Go.RowKit
set_option linter.unusedVariables false
set_option linter.unusedSimpArgs false
set_option maxRecDepth 100000
theorem ors (X Y : Int) (x y i : Nat) (hX : X = (x : Int)) (hY : Y = (y : Int)) (h : x % 2 ^ i = 0) (hy : y < 2 ^ i) (hx2 : x < 18446744073709551616) (hy2 : y < 18446744073709551616) : bits .or .u64 X Y = ((x + y : Nat) : Int) := by
  subst hX; subst hY
  rw [u64_or_nat _ _ hx2 hy2, nat_join i x y h hy]
theorem or_0 : (0 : Int) = ((unfx [] : Nat) : Int) := by
  rfl
set_option maxRecDepth 10000 in
theorem fixed_0 (c : Nat) (A : Option Addr) (w : World)   :
    Calls Tryz.prog 181 #[.slice A 0 c] w fun e w' => e = .returned (.int .u64 ((unfx [] : Nat) : Int)) ∧ w = w' := by
  go_enter Tryz.func181, Tryz.ntmps181
  go_wp2_with fail
  go_ret
  exact ⟨rfl, rfl⟩
theorem or_1 (b0 : Nat) (hb0 : b0 < 256) : (bits .or .u64 0 (b0 : Int)) = ((unfx [b0] : Nat) : Int) := by
  rw [ors _ (b0 : Int) (0) b0 8 (by first | rfl | simp) (by first | rfl | simp) (by omega) (by omega) (by omega) (by omega)]
  refine congrArg Nat.cast ?_
  simp only [unfx]
  omega
set_option maxRecDepth 10000 in
theorem fixed_1 (b off c b0 : Nat) (w : World) (hb0 : b0 < 256) (h0 : w.cell? ⟨b, off, none⟩ = some (.int .u8 (b0 : Int))) :
    Calls Tryz.prog 181 #[.slice (some ⟨b, off, none⟩) 1 c] w fun e w' => e = .returned (.int .u64 ((unfx [b0] : Nat) : Int)) ∧ w = w' := by
  have HO := Lib.hid (or_1 b0 hb0)
  go_enter Tryz.func181, Tryz.ntmps181
  go_wp2_with fail
  go_ret
  exact ⟨ret_of (congrArg (Value.int .u64) HO.out), rfl⟩
theorem or_2 (b0 b1 : Nat) (hb0 : b0 < 256) (hb1 : b1 < 256) : (bits .or .u64 (bits .or .u64 0 ((b1 : Int) * 256)) (b0 : Int)) = ((unfx [b0, b1] : Nat) : Int) := by
  rw [ors _ ((b1 : Int) * 256) (0) (b1 * 256) 16 (by first | rfl | simp) (by first | rfl | simp) (by omega) (by omega) (by omega) (by omega)]
  rw [ors _ (b0 : Int) (0 + (b1 * 256)) b0 8 (by first | rfl | simp) (by first | rfl | simp) (by omega) (by omega) (by omega) (by omega)]
  refine congrArg Nat.cast ?_
  simp only [unfx]
  omega
set_option maxRecDepth 10000 in
theorem fixed_2 (b off c b0 b1 : Nat) (w : World) (hb0 : b0 < 256) (hb1 : b1 < 256) (h0 : w.cell? ⟨b, off, none⟩ = some (.int .u8 (b0 : Int))) (h1 : w.cell? ⟨b, off + 1, none⟩ = some (.int .u8 (b1 : Int))) :
    Calls Tryz.prog 181 #[.slice (some ⟨b, off, none⟩) 2 c] w fun e w' => e = .returned (.int .u64 ((unfx [b0, b1] : Nat) : Int)) ∧ w = w' := by
  have HO := Lib.hid (or_2 b0 b1 hb0 hb1)
  go_enter Tryz.func181, Tryz.ntmps181
  go_wp2_with fail
  go_ret
  exact ⟨ret_of (congrArg (Value.int .u64) HO.out), rfl⟩
theorem or_3 (b0 b1 b2 : Nat) (hb0 : b0 < 256) (hb1 : b1 < 256) (hb2 : b2 < 256) : (bits .or .u64 (bits .or .u64 (bits .or .u64 0 ((b2 : Int) * 65536)) ((b1 : Int) * 256)) (b0 : Int)) = ((unfx [b0, b1, b2] : Nat) : Int) := by
  rw [ors _ ((b2 : Int) * 65536) (0) (b2 * 65536) 24 (by first | rfl | simp) (by first | rfl | simp) (by omega) (by omega) (by omega) (by omega)]
  rw [ors _ ((b1 : Int) * 256) (0 + (b2 * 65536)) (b1 * 256) 16 (by first | rfl | simp) (by first | rfl | simp) (by omega) (by omega) (by omega) (by omega)]
  rw [ors _ (b0 : Int) (0 + (b2 * 65536) + (b1 * 256)) b0 8 (by first | rfl | simp) (by first | rfl | simp) (by omega) (by omega) (by omega) (by omega)]
  refine congrArg Nat.cast ?_
  simp only [unfx]
  omega
set_option maxRecDepth 10000 in
theorem fixed_3 (b off c b0 b1 b2 : Nat) (w : World) (hb0 : b0 < 256) (hb1 : b1 < 256) (hb2 : b2 < 256) (h0 : w.cell? ⟨b, off, none⟩ = some (.int .u8 (b0 : Int))) (h1 : w.cell? ⟨b, off + 1, none⟩ = some (.int .u8 (b1 : Int))) (h2 : w.cell? ⟨b, off + 2, none⟩ = some (.int .u8 (b2 : Int))) :
    Calls Tryz.prog 181 #[.slice (some ⟨b, off, none⟩) 3 c] w fun e w' => e = .returned (.int .u64 ((unfx [b0, b1, b2] : Nat) : Int)) ∧ w = w' := by
  have HO := Lib.hid (or_3 b0 b1 b2 hb0 hb1 hb2)
  go_enter Tryz.func181, Tryz.ntmps181
  go_wp2_with fail
  go_ret
  exact ⟨ret_of (congrArg (Value.int .u64) HO.out), rfl⟩
theorem or_4 (b0 b1 b2 b3 : Nat) (hb0 : b0 < 256) (hb1 : b1 < 256) (hb2 : b2 < 256) (hb3 : b3 < 256) : (bits .or .u64 (bits .or .u64 (bits .or .u64 (bits .or .u64 0 ((b3 : Int) * 16777216)) ((b2 : Int) * 65536)) ((b1 : Int) * 256)) (b0 : Int)) = ((unfx [b0, b1, b2, b3] : Nat) : Int) := by
  rw [ors _ ((b3 : Int) * 16777216) (0) (b3 * 16777216) 32 (by first | rfl | simp) (by first | rfl | simp) (by omega) (by omega) (by omega) (by omega)]
  rw [ors _ ((b2 : Int) * 65536) (0 + (b3 * 16777216)) (b2 * 65536) 24 (by first | rfl | simp) (by first | rfl | simp) (by omega) (by omega) (by omega) (by omega)]
  rw [ors _ ((b1 : Int) * 256) (0 + (b3 * 16777216) + (b2 * 65536)) (b1 * 256) 16 (by first | rfl | simp) (by first | rfl | simp) (by omega) (by omega) (by omega) (by omega)]
  rw [ors _ (b0 : Int) (0 + (b3 * 16777216) + (b2 * 65536) + (b1 * 256)) b0 8 (by first | rfl | simp) (by first | rfl | simp) (by omega) (by omega) (by omega) (by omega)]
  refine congrArg Nat.cast ?_
  simp only [unfx]
  omega
set_option maxRecDepth 10000 in
theorem fixed_4 (b off c b0 b1 b2 b3 : Nat) (w : World) (hb0 : b0 < 256) (hb1 : b1 < 256) (hb2 : b2 < 256) (hb3 : b3 < 256) (h0 : w.cell? ⟨b, off, none⟩ = some (.int .u8 (b0 : Int))) (h1 : w.cell? ⟨b, off + 1, none⟩ = some (.int .u8 (b1 : Int))) (h2 : w.cell? ⟨b, off + 2, none⟩ = some (.int .u8 (b2 : Int))) (h3 : w.cell? ⟨b, off + 3, none⟩ = some (.int .u8 (b3 : Int))) :
    Calls Tryz.prog 181 #[.slice (some ⟨b, off, none⟩) 4 c] w fun e w' => e = .returned (.int .u64 ((unfx [b0, b1, b2, b3] : Nat) : Int)) ∧ w = w' := by
  have HO := Lib.hid (or_4 b0 b1 b2 b3 hb0 hb1 hb2 hb3)
  go_enter Tryz.func181, Tryz.ntmps181
  go_wp2_with fail
  go_ret
  exact ⟨ret_of (congrArg (Value.int .u64) HO.out), rfl⟩
theorem or_5 (b0 b1 b2 b3 b4 : Nat) (hb0 : b0 < 256) (hb1 : b1 < 256) (hb2 : b2 < 256) (hb3 : b3 < 256) (hb4 : b4 < 256) : (bits .or .u64 (bits .or .u64 (bits .or .u64 (bits .or .u64 (bits .or .u64 0 ((b4 : Int) * 4294967296)) ((b3 : Int) * 16777216)) ((b2 : Int) * 65536)) ((b1 : Int) * 256)) (b0 : Int)) = ((unfx [b0, b1, b2, b3, b4] : Nat) : Int) := by
  rw [ors _ ((b4 : Int) * 4294967296) (0) (b4 * 4294967296) 40 (by first | rfl | simp) (by first | rfl | simp) (by omega) (by omega) (by omega) (by omega)]
  rw [ors _ ((b3 : Int) * 16777216) (0 + (b4 * 4294967296)) (b3 * 16777216) 32 (by first | rfl | simp) (by first | rfl | simp) (by omega) (by omega) (by omega) (by omega)]
  rw [ors _ ((b2 : Int) * 65536) (0 + (b4 * 4294967296) + (b3 * 16777216)) (b2 * 65536) 24 (by first | rfl | simp) (by first | rfl | simp) (by omega) (by omega) (by omega) (by omega)]
  rw [ors _ ((b1 : Int) * 256) (0 + (b4 * 4294967296) + (b3 * 16777216) + (b2 * 65536)) (b1 * 256) 16 (by first | rfl | simp) (by first | rfl | simp) (by omega) (by omega) (by omega) (by omega)]
  rw [ors _ (b0 : Int) (0 + (b4 * 4294967296) + (b3 * 16777216) + (b2 * 65536) + (b1 * 256)) b0 8 (by first | rfl | simp) (by first | rfl | simp) (by omega) (by omega) (by omega) (by omega)]
  refine congrArg Nat.cast ?_
  simp only [unfx]
  omega
set_option maxRecDepth 10000 in
theorem fixed_5 (b off c b0 b1 b2 b3 b4 : Nat) (w : World) (hb0 : b0 < 256) (hb1 : b1 < 256) (hb2 : b2 < 256) (hb3 : b3 < 256) (hb4 : b4 < 256) (h0 : w.cell? ⟨b, off, none⟩ = some (.int .u8 (b0 : Int))) (h1 : w.cell? ⟨b, off + 1, none⟩ = some (.int .u8 (b1 : Int))) (h2 : w.cell? ⟨b, off + 2, none⟩ = some (.int .u8 (b2 : Int))) (h3 : w.cell? ⟨b, off + 3, none⟩ = some (.int .u8 (b3 : Int))) (h4 : w.cell? ⟨b, off + 4, none⟩ = some (.int .u8 (b4 : Int))) :
    Calls Tryz.prog 181 #[.slice (some ⟨b, off, none⟩) 5 c] w fun e w' => e = .returned (.int .u64 ((unfx [b0, b1, b2, b3, b4] : Nat) : Int)) ∧ w = w' := by
  have HO := Lib.hid (or_5 b0 b1 b2 b3 b4 hb0 hb1 hb2 hb3 hb4)
  go_enter Tryz.func181, Tryz.ntmps181
  go_wp2_with fail
  go_ret
  exact ⟨ret_of (congrArg (Value.int .u64) HO.out), rfl⟩
theorem or_6 (b0 b1 b2 b3 b4 b5 : Nat) (hb0 : b0 < 256) (hb1 : b1 < 256) (hb2 : b2 < 256) (hb3 : b3 < 256) (hb4 : b4 < 256) (hb5 : b5 < 256) : (bits .or .u64 (bits .or .u64 (bits .or .u64 (bits .or .u64 (bits .or .u64 (bits .or .u64 0 ((b5 : Int) * 1099511627776)) ((b4 : Int) * 4294967296)) ((b3 : Int) * 16777216)) ((b2 : Int) * 65536)) ((b1 : Int) * 256)) (b0 : Int)) = ((unfx [b0, b1, b2, b3, b4, b5] : Nat) : Int) := by
  rw [ors _ ((b5 : Int) * 1099511627776) (0) (b5 * 1099511627776) 48 (by first | rfl | simp) (by first | rfl | simp) (by omega) (by omega) (by omega) (by omega)]
  rw [ors _ ((b4 : Int) * 4294967296) (0 + (b5 * 1099511627776)) (b4 * 4294967296) 40 (by first | rfl | simp) (by first | rfl | simp) (by omega) (by omega) (by omega) (by omega)]
  rw [ors _ ((b3 : Int) * 16777216) (0 + (b5 * 1099511627776) + (b4 * 4294967296)) (b3 * 16777216) 32 (by first | rfl | simp) (by first | rfl | simp) (by omega) (by omega) (by omega) (by omega)]
  rw [ors _ ((b2 : Int) * 65536) (0 + (b5 * 1099511627776) + (b4 * 4294967296) + (b3 * 16777216)) (b2 * 65536) 24 (by first | rfl | simp) (by first | rfl | simp) (by omega) (by omega) (by omega) (by omega)]
  rw [ors _ ((b1 : Int) * 256) (0 + (b5 * 1099511627776) + (b4 * 4294967296) + (b3 * 16777216) + (b2 * 65536)) (b1 * 256) 16 (by first | rfl | simp) (by first | rfl | simp) (by omega) (by omega) (by omega) (by omega)]
  rw [ors _ (b0 : Int) (0 + (b5 * 1099511627776) + (b4 * 4294967296) + (b3 * 16777216) + (b2 * 65536) + (b1 * 256)) b0 8 (by first | rfl | simp) (by first | rfl | simp) (by omega) (by omega) (by omega) (by omega)]
  refine congrArg Nat.cast ?_
  simp only [unfx]
  omega
set_option maxRecDepth 10000 in
theorem fixed_6 (b off c b0 b1 b2 b3 b4 b5 : Nat) (w : World) (hb0 : b0 < 256) (hb1 : b1 < 256) (hb2 : b2 < 256) (hb3 : b3 < 256) (hb4 : b4 < 256) (hb5 : b5 < 256) (h0 : w.cell? ⟨b, off, none⟩ = some (.int .u8 (b0 : Int))) (h1 : w.cell? ⟨b, off + 1, none⟩ = some (.int .u8 (b1 : Int))) (h2 : w.cell? ⟨b, off + 2, none⟩ = some (.int .u8 (b2 : Int))) (h3 : w.cell? ⟨b, off + 3, none⟩ = some (.int .u8 (b3 : Int))) (h4 : w.cell? ⟨b, off + 4, none⟩ = some (.int .u8 (b4 : Int))) (h5 : w.cell? ⟨b, off + 5, none⟩ = some (.int .u8 (b5 : Int))) :
    Calls Tryz.prog 181 #[.slice (some ⟨b, off, none⟩) 6 c] w fun e w' => e = .returned (.int .u64 ((unfx [b0, b1, b2, b3, b4, b5] : Nat) : Int)) ∧ w = w' := by
  have HO := Lib.hid (or_6 b0 b1 b2 b3 b4 b5 hb0 hb1 hb2 hb3 hb4 hb5)
  go_enter Tryz.func181, Tryz.ntmps181
  go_wp2_with fail
  go_ret
  exact ⟨ret_of (congrArg (Value.int .u64) HO.out), rfl⟩
theorem or_7 (b0 b1 b2 b3 b4 b5 b6 : Nat) (hb0 : b0 < 256) (hb1 : b1 < 256) (hb2 : b2 < 256) (hb3 : b3 < 256) (hb4 : b4 < 256) (hb5 : b5 < 256) (hb6 : b6 < 256) : (bits .or .u64 (bits .or .u64 (bits .or .u64 (bits .or .u64 (bits .or .u64 (bits .or .u64 (bits .or .u64 0 ((b6 : Int) * 281474976710656)) ((b5 : Int) * 1099511627776)) ((b4 : Int) * 4294967296)) ((b3 : Int) * 16777216)) ((b2 : Int) * 65536)) ((b1 : Int) * 256)) (b0 : Int)) = ((unfx [b0, b1, b2, b3, b4, b5, b6] : Nat) : Int) := by
  rw [ors _ ((b6 : Int) * 281474976710656) (0) (b6 * 281474976710656) 56 (by first | rfl | simp) (by first | rfl | simp) (by omega) (by omega) (by omega) (by omega)]
  rw [ors _ ((b5 : Int) * 1099511627776) (0 + (b6 * 281474976710656)) (b5 * 1099511627776) 48 (by first | rfl | simp) (by first | rfl | simp) (by omega) (by omega) (by omega) (by omega)]
  rw [ors _ ((b4 : Int) * 4294967296) (0 + (b6 * 281474976710656) + (b5 * 1099511627776)) (b4 * 4294967296) 40 (by first | rfl | simp) (by first | rfl | simp) (by omega) (by omega) (by omega) (by omega)]
  rw [ors _ ((b3 : Int) * 16777216) (0 + (b6 * 281474976710656) + (b5 * 1099511627776) + (b4 * 4294967296)) (b3 * 16777216) 32 (by first | rfl | simp) (by first | rfl | simp) (by omega) (by omega) (by omega) (by omega)]
  rw [ors _ ((b2 : Int) * 65536) (0 + (b6 * 281474976710656) + (b5 * 1099511627776) + (b4 * 4294967296) + (b3 * 16777216)) (b2 * 65536) 24 (by first | rfl | simp) (by first | rfl | simp) (by omega) (by omega) (by omega) (by omega)]
  rw [ors _ ((b1 : Int) * 256) (0 + (b6 * 281474976710656) + (b5 * 1099511627776) + (b4 * 4294967296) + (b3 * 16777216) + (b2 * 65536)) (b1 * 256) 16 (by first | rfl | simp) (by first | rfl | simp) (by omega) (by omega) (by omega) (by omega)]
  rw [ors _ (b0 : Int) (0 + (b6 * 281474976710656) + (b5 * 1099511627776) + (b4 * 4294967296) + (b3 * 16777216) + (b2 * 65536) + (b1 * 256)) b0 8 (by first | rfl | simp) (by first | rfl | simp) (by omega) (by omega) (by omega) (by omega)]
  refine congrArg Nat.cast ?_
  simp only [unfx]
  omega
set_option maxRecDepth 10000 in
theorem fixed_7 (b off c b0 b1 b2 b3 b4 b5 b6 : Nat) (w : World) (hb0 : b0 < 256) (hb1 : b1 < 256) (hb2 : b2 < 256) (hb3 : b3 < 256) (hb4 : b4 < 256) (hb5 : b5 < 256) (hb6 : b6 < 256) (h0 : w.cell? ⟨b, off, none⟩ = some (.int .u8 (b0 : Int))) (h1 : w.cell? ⟨b, off + 1, none⟩ = some (.int .u8 (b1 : Int))) (h2 : w.cell? ⟨b, off + 2, none⟩ = some (.int .u8 (b2 : Int))) (h3 : w.cell? ⟨b, off + 3, none⟩ = some (.int .u8 (b3 : Int))) (h4 : w.cell? ⟨b, off + 4, none⟩ = some (.int .u8 (b4 : Int))) (h5 : w.cell? ⟨b, off + 5, none⟩ = some (.int .u8 (b5 : Int))) (h6 : w.cell? ⟨b, off + 6, none⟩ = some (.int .u8 (b6 : Int))) :
    Calls Tryz.prog 181 #[.slice (some ⟨b, off, none⟩) 7 c] w fun e w' => e = .returned (.int .u64 ((unfx [b0, b1, b2, b3, b4, b5, b6] : Nat) : Int)) ∧ w = w' := by
  have HO := Lib.hid (or_7 b0 b1 b2 b3 b4 b5 b6 hb0 hb1 hb2 hb3 hb4 hb5 hb6)
  go_enter Tryz.func181, Tryz.ntmps181
  go_wp2_with fail
  go_ret
  exact ⟨ret_of (congrArg (Value.int .u64) HO.out), rfl⟩
theorem or_8 (b0 b1 b2 b3 b4 b5 b6 b7 : Nat) (hb0 : b0 < 256) (hb1 : b1 < 256) (hb2 : b2 < 256) (hb3 : b3 < 256) (hb4 : b4 < 256) (hb5 : b5 < 256) (hb6 : b6 < 256) (hb7 : b7 < 256) : (bits .or .u64 (bits .or .u64 (bits .or .u64 (bits .or .u64 (bits .or .u64 (bits .or .u64 (bits .or .u64 (bits .or .u64 0 ((b7 : Int) * 72057594037927936)) ((b6 : Int) * 281474976710656)) ((b5 : Int) * 1099511627776)) ((b4 : Int) * 4294967296)) ((b3 : Int) * 16777216)) ((b2 : Int) * 65536)) ((b1 : Int) * 256)) (b0 : Int)) = ((unfx [b0, b1, b2, b3, b4, b5, b6, b7] : Nat) : Int) := by
  rw [ors _ ((b7 : Int) * 72057594037927936) (0) (b7 * 72057594037927936) 64 (by first | rfl | simp) (by first | rfl | simp) (by omega) (by omega) (by omega) (by omega)]
  rw [ors _ ((b6 : Int) * 281474976710656) (0 + (b7 * 72057594037927936)) (b6 * 281474976710656) 56 (by first | rfl | simp) (by first | rfl | simp) (by omega) (by omega) (by omega) (by omega)]
  rw [ors _ ((b5 : Int) * 1099511627776) (0 + (b7 * 72057594037927936) + (b6 * 281474976710656)) (b5 * 1099511627776) 48 (by first | rfl | simp) (by first | rfl | simp) (by omega) (by omega) (by omega) (by omega)]
  rw [ors _ ((b4 : Int) * 4294967296) (0 + (b7 * 72057594037927936) + (b6 * 281474976710656) + (b5 * 1099511627776)) (b4 * 4294967296) 40 (by first | rfl | simp) (by first | rfl | simp) (by omega) (by omega) (by omega) (by omega)]
  rw [ors _ ((b3 : Int) * 16777216) (0 + (b7 * 72057594037927936) + (b6 * 281474976710656) + (b5 * 1099511627776) + (b4 * 4294967296)) (b3 * 16777216) 32 (by first | rfl | simp) (by first | rfl | simp) (by omega) (by omega) (by omega) (by omega)]
  rw [ors _ ((b2 : Int) * 65536) (0 + (b7 * 72057594037927936) + (b6 * 281474976710656) + (b5 * 1099511627776) + (b4 * 4294967296) + (b3 * 16777216)) (b2 * 65536) 24 (by first | rfl | simp) (by first | rfl | simp) (by omega) (by omega) (by omega) (by omega)]
  rw [ors _ ((b1 : Int) * 256) (0 + (b7 * 72057594037927936) + (b6 * 281474976710656) + (b5 * 1099511627776) + (b4 * 4294967296) + (b3 * 16777216) + (b2 * 65536)) (b1 * 256) 16 (by first | rfl | simp) (by first | rfl | simp) (by omega) (by omega) (by omega) (by omega)]
  rw [ors _ (b0 : Int) (0 + (b7 * 72057594037927936) + (b6 * 281474976710656) + (b5 * 1099511627776) + (b4 * 4294967296) + (b3 * 16777216) + (b2 * 65536) + (b1 * 256)) b0 8 (by first | rfl | simp) (by first | rfl | simp) (by omega) (by omega) (by omega) (by omega)]
  refine congrArg Nat.cast ?_
  simp only [unfx]
  omega
set_option maxRecDepth 10000 in
theorem fixed_8 (b off c b0 b1 b2 b3 b4 b5 b6 b7 : Nat) (w : World) (hb0 : b0 < 256) (hb1 : b1 < 256) (hb2 : b2 < 256) (hb3 : b3 < 256) (hb4 : b4 < 256) (hb5 : b5 < 256) (hb6 : b6 < 256) (hb7 : b7 < 256) (h0 : w.cell? ⟨b, off, none⟩ = some (.int .u8 (b0 : Int))) (h1 : w.cell? ⟨b, off + 1, none⟩ = some (.int .u8 (b1 : Int))) (h2 : w.cell? ⟨b, off + 2, none⟩ = some (.int .u8 (b2 : Int))) (h3 : w.cell? ⟨b, off + 3, none⟩ = some (.int .u8 (b3 : Int))) (h4 : w.cell? ⟨b, off + 4, none⟩ = some (.int .u8 (b4 : Int))) (h5 : w.cell? ⟨b, off + 5, none⟩ = some (.int .u8 (b5 : Int))) (h6 : w.cell? ⟨b, off + 6, none⟩ = some (.int .u8 (b6 : Int))) (h7 : w.cell? ⟨b, off + 7, none⟩ = some (.int .u8 (b7 : Int))) :
    Calls Tryz.prog 181 #[.slice (some ⟨b, off, none⟩) 8 c] w fun e w' => e = .returned (.int .u64 ((unfx [b0, b1, b2, b3, b4, b5, b6, b7] : Nat) : Int)) ∧ w = w' := by
  have HO := Lib.hid (or_8 b0 b1 b2 b3 b4 b5 b6 b7 hb0 hb1 hb2 hb3 hb4 hb5 hb6 hb7)
  go_enter Tryz.func181, Tryz.ntmps181
  go_wp2_with fail
  go_ret
  exact ⟨ret_of (congrArg (Value.int .u64) HO.out), rfl⟩
theorem fixed_any {w : World} {B : Nat} {A : Option Addr} {n : Nat} {l : List Nat} (c : Nat) (h : Reads w B 1 A n (bs l)) (hn : n ≤ 8) (hb : ∀ b ∈ l, b < 256) :
    Calls Tryz.prog 181 #[.slice A n c] w fun e w' => e = .returned (.int .u64 ((unfx l : Nat) : Int)) ∧ w = w' := by
  have hl : l.length = n := by have := h.1; rw [bs_length] at this; omega
  rcases Nat.eq_zero_or_pos n with h0 | h0
  · subst h0
    obtain rfl := List.eq_nil_of_length_eq_zero hl
    exact fixed_0 c A w
  · obtain ⟨b, off, rfl, _, hc⟩ := h.plain h0
    subst hl
    rcases l with _ | ⟨x0, _ | ⟨x1, _ | ⟨x2, _ | ⟨x3, _ | ⟨x4, _ | ⟨x5, _ | ⟨x6, _ | ⟨x7, _ | ⟨x8, r⟩⟩⟩⟩⟩⟩⟩⟩⟩
    · simp at h0
    · exact fixed_1 b off c x0 w (hb x0 (by simp)) (hc 0 _ rfl)
    · exact fixed_2 b off c x0 x1 w (hb x0 (by simp)) (hb x1 (by simp)) (hc 0 _ rfl) (hc 1 _ rfl)
    · exact fixed_3 b off c x0 x1 x2 w (hb x0 (by simp)) (hb x1 (by simp)) (hb x2 (by simp)) (hc 0 _ rfl) (hc 1 _ rfl) (hc 2 _ rfl)
    · exact fixed_4 b off c x0 x1 x2 x3 w (hb x0 (by simp)) (hb x1 (by simp)) (hb x2 (by simp)) (hb x3 (by simp)) (hc 0 _ rfl) (hc 1 _ rfl) (hc 2 _ rfl) (hc 3 _ rfl)
    · exact fixed_5 b off c x0 x1 x2 x3 x4 w (hb x0 (by simp)) (hb x1 (by simp)) (hb x2 (by simp)) (hb x3 (by simp)) (hb x4 (by simp)) (hc 0 _ rfl) (hc 1 _ rfl) (hc 2 _ rfl) (hc 3 _ rfl) (hc 4 _ rfl)
    · exact fixed_6 b off c x0 x1 x2 x3 x4 x5 w (hb x0 (by simp)) (hb x1 (by simp)) (hb x2 (by simp)) (hb x3 (by simp)) (hb x4 (by simp)) (hb x5 (by simp)) (hc 0 _ rfl) (hc 1 _ rfl) (hc 2 _ rfl) (hc 3 _ rfl) (hc 4 _ rfl) (hc 5 _ rfl)
    · exact fixed_7 b off c x0 x1 x2 x3 x4 x5 x6 w (hb x0 (by simp)) (hb x1 (by simp)) (hb x2 (by simp)) (hb x3 (by simp)) (hb x4 (by simp)) (hb x5 (by simp)) (hb x6 (by simp)) (hc 0 _ rfl) (hc 1 _ rfl) (hc 2 _ rfl) (hc 3 _ rfl) (hc 4 _ rfl) (hc 5 _ rfl) (hc 6 _ rfl)
    · exact fixed_8 b off c x0 x1 x2 x3 x4 x5 x6 x7 w (hb x0 (by simp)) (hb x1 (by simp)) (hb x2 (by simp)) (hb x3 (by simp)) (hb x4 (by simp)) (hb x5 (by simp)) (hb x6 (by simp)) (hb x7 (by simp)) (hc 0 _ rfl) (hc 1 _ rfl) (hc 2 _ rfl) (hc 3 _ rfl) (hc 4 _ rfl) (hc 5 _ rfl) (hc 6 _ rfl) (hc 7 _ rfl)
    · simp at hn
end Go.Proofs.YticanhidahkhfaaGreatDoor
namespace Go.Proofs.YticanhidahkhfaaGreatDoor
open Go.RowKit
set_option linter.unusedVariables false
set_option linter.unusedSimpArgs false
set_option maxRecDepth 100000
theorem fix_ok {w : World} {g : Nat} {A : Option Addr} {n c at_ : Nat} {l : List Nat} (size : Nat) (hR : Rd w g A n c at_ .nilIface l) (hs : size ≤ 8) (hroom : at_ + size ≤ n) :
    Calls Tryz.prog 116 #[.pointer (some ⟨g, 0, none⟩), .int .i64 (size : Int)] w
      fun e w' => e = .returned (.int .u64 ((unfx ((l.drop at_).take size) : Nat) : Int)) ∧ Rd w' g A n c (at_ + size) .nilIface l ∧ w.grownBy w' (some g) := by
  have hc0 := hR.blk.cell 0
  have hc := hR.blk.cell 1
  simp only [List.getElem?_toArray, List.getElem?_cons_succ, List.getElem?_cons_zero] at hc hc0
  have hz := hR.size
  have hp := hR.place
  have hcap := hR.cap
  have hf := hR.blk.frozen 1
  have hcut : Reads w g 1 (if c = at_ then A else Option.map (fun x => x.add at_) A) size (bs ((l.drop at_).take size)) := by
    have := (hR.reads.cut hp hcap).fore (k := size) (by omega)
    simpa [bs_drop, bs_take] using this
  have hby : ∀ b ∈ (l.drop at_).take size, b < 256 := fun b hb => hR.byte b (List.mem_of_mem_drop (List.mem_of_mem_take hb))
  go_enter Tryz.func116, Tryz.ntmps116
  go_wp2_with (first
    | (go_at_call 112; refine (stopped_ok hR).mono ?_; rintro e w1 ⟨rfl, rfl⟩)
    | (go_at_call 67; refine (left_any hR).mono ?_; rintro e w1 ⟨rfl, q, rfl⟩))
  go_quiet ((go_at_call 181; exact quiet_same (fixed_any _ (hcut.drewN _) hs hby)))
  go_wp2_with fail
  all_goals
    go_ret
    first
      | exact ⟨rfl, hR.goes _ _ hroom⟩
      | (have hca : c = at_ := by assumption
         subst hca
         exact ⟨rfl, hR.goes _ _ hroom⟩)
end Go.Proofs.YticanhidahkhfaaGreatDoor
namespace Go.Proofs.YticanhidahkhfaaGreatDoor
open Go.RowKit
set_option linter.unusedVariables false
set_option linter.unusedSimpArgs false
set_option maxRecDepth 100000
theorem nfix_is {w : World} {g : Nat} {l : List Nat} {at_ : Nat} {x : Option (Int × Nat)} (n : Int) (h : RdS w g l at_ x) :
    Calls Tryz.prog 116 #[.pointer (some ⟨g, 0, none⟩), .int .i64 n] w
      fun e w' => e = .returned (.int .u64 ((fixS l at_ x n).1 : Int)) ∧ RdTo w g l (fixS l at_ x n).2.1 (fixS l at_ x n).2.2 w' := by
  cases x with
  | some x =>
    go_enter Tryz.func116, Tryz.ntmps116
    go_wp2_with (go_at_call 112; refine (stopped_err h).mono ?_; rintro e w1 ⟨rfl, rfl⟩)
    go_ret
    exact ⟨rfl, RdTo.same h (Drawn.refl w)⟩
  | none =>
    have hp := h.place
    by_cases h0 : n < 0 ∨ 8 < n
    · have hS : fixS l at_ none n = (0, at_, some (1, at_)) := by unfold fixS; simp only; rw [if_pos h0]
      rw [hS]
      clear hS
      rcases h0 with h0 | h0
      · go_enter Tryz.func116, Tryz.ntmps116
        go_wp2_with (first
          | (go_at_call 112; refine (stopped_is h).mono ?_; rintro e w1 ⟨rfl, rfl⟩)
          | (go_at_call 114; refine (stop_is 1 h).mono ?_; rintro e w2 ⟨rfl, hto⟩))
        go_ret
        exact ⟨rfl, hto⟩
      · have h0' : ¬ n < 0 := by omega
        go_enter Tryz.func116, Tryz.ntmps116
        go_wp2_with (first
          | (go_at_call 112; refine (stopped_is h).mono ?_; rintro e w1 ⟨rfl, rfl⟩)
          | (go_at_call 114; refine (stop_is 1 h).mono ?_; rintro e w2 ⟨rfl, hto⟩))
        go_ret
        exact ⟨rfl, hto⟩
    · by_cases h1 : (l.length : Int) - at_ < n
      · have hS : fixS l at_ none n = (0, at_, some (2, at_)) := by unfold fixS; simp only; rw [if_neg h0, if_pos h1]
        rw [hS]
        clear hS
        have h2 : ¬ n < 0 := fun h' => h0 (.inl h')
        have h3 : ¬ 8 < n := fun h' => h0 (.inr h')
        clear h0
        go_enter Tryz.func116, Tryz.ntmps116
        go_wp2_with (first
          | (go_at_call 112; refine (stopped_is h).mono ?_; rintro e w1 ⟨rfl, rfl⟩)
          | (go_at_call 67; refine (left_is h).mono ?_; rintro e w1 ⟨rfl, hd⟩; have h2' := h.next (hd.below (Below.refl _ _)))
          | (go_at_call 114; refine (stop_is 2 h2').mono ?_; rintro e w2 ⟨rfl, hto⟩))
        go_ret
        exact ⟨rfl, hto.1, only_trans (only_below (World.grownBy.refl w _) (hd.below (Below.refl _ _))) hto.2⟩
      · obtain ⟨k, rfl⟩ := Int.eq_ofNat_of_zero_le (show 0 ≤ n by omega)
        have hS : fixS l at_ none (k : Int) = (unfx ((l.drop at_).take k), at_ + k, none) := by unfold fixS; simp only; rw [if_neg h0, if_neg h1]; rfl
        rw [hS]
        obtain ⟨A, m, c, err, hR, rfl⟩ := h
        exact (fix_ok k hR (by omega) (by have := hR.length; omega)).mono fun e w' ⟨he, hr, hg⟩ => ⟨he, ⟨A, m, c, _, hr, rfl⟩, hg⟩
end Go.Proofs.YticanhidahkhfaaGreatDoor
namespace Go.Proofs.YticanhidahkhfaaGreatDoor
open Go.RowKit
set_option linter.unusedVariables false
set_option linter.unusedSimpArgs false
set_option maxRecDepth 100000
theorem RdS.byte {w : World} {g : Nat} {l : List Nat} {at_ : Nat} {x : Option (Int × Nat)} (h : RdS w g l at_ x) : ∀ b ∈ l, b < 256 := by
  obtain ⟨A, n, c, err, hR, _⟩ := h
  exact hR.byte
theorem takeS_byte (b : List Nat) (at_ : Nat) (x : Option (Int × Nat)) (n : Int) (hb : ∀ v ∈ b, v < 256) : (∀ v ∈ (takeS b at_ x n).1, v < 256) ∧ (takeS b at_ x n).1.length ≤ b.length := by
  unfold takeS
  cases x with
  | some y => simp
  | none =>
    simp only
    split
    · simp
    · split
      · simp
      · refine ⟨fun v hv => hb v (List.mem_of_mem_drop (List.mem_of_mem_take hv)), ?_⟩
        simp only [List.length_take, List.length_drop]; omega
end Go.Proofs.YticanhidahkhfaaGreatDoor
namespace Go.Proofs.YticanhidahkhfaaGreatDoor
open Go.RowKit
set_option linter.unusedVariables false
set_option linter.unusedSimpArgs false
set_option maxRecDepth 100000
theorem take_nil (n : Int) (w : World) : Calls Tryz.prog 115 #[.pointer none, .int .i64 n] w fun e w' => e = .returned (.slice none 0 0) ∧ w = w' := by
  go_enter Tryz.func115, Tryz.ntmps115
  go_wp2_with (go_at_call 112; refine (stopped_nil _).mono ?_; rintro e w1 ⟨rfl, rfl⟩)
  go_ret
  exact ⟨rfl, rfl⟩
theorem fix_nil (n : Int) (w : World) : Calls Tryz.prog 116 #[.pointer none, .int .i64 n] w fun e w' => e = .returned (.int .u64 0) ∧ w = w' := by
  go_enter Tryz.func116, Tryz.ntmps116
  go_wp2_with (go_at_call 112; refine (stopped_nil _).mono ?_; rintro e w1 ⟨rfl, rfl⟩)
  go_ret
  exact ⟨rfl, rfl⟩
theorem take_ok {w : World} {g : Nat} {A : Option Addr} {n c at_ : Nat} {l : List Nat} (size : Nat) (hR : Rd w g A n c at_ .nilIface l) (hroom : at_ + size ≤ n) :
    Calls Tryz.prog 115 #[.pointer (some ⟨g, 0, none⟩), .int .i64 (size : Int)] w
      fun e w' => Bytes ((l.drop at_).take size) e w' ∧ RdTo w g l (at_ + size) none w' := by
  have hc0 := hR.blk.cell 0
  have hc := hR.blk.cell 1
  simp only [List.getElem?_toArray, List.getElem?_cons_succ, List.getElem?_cons_zero] at hc hc0
  have hz := hR.size
  have hp := hR.place
  have hcap := hR.cap
  have hf := hR.blk.frozen 1
  have hlt := hR.blk.lt
  have hcut : Reads w g 1 (if c = at_ then A else Option.map (fun x => x.add at_) A) size (bs ((l.drop at_).take size)) := by
    have := (hR.reads.cut hp hcap).fore (k := size) (by omega)
    simpa [bs_drop, bs_take] using this
  have hbd : (at_ : Int) + (size : Int) ≤ (c : Int) := by omega
  have f2 : IntKind.i64.wrap ((at_ : Int) + (size : Int)) = (at_ : Int) + (size : Int) := IntWalk.i64_in _ (by omega)
  have f4 : ((at_ : Int) + (size : Int)).toNat = at_ + size := by omega
  have f5 : 0 ≤ (at_ : Int) + (size : Int) := by omega
  by_cases hca : c = at_
  case' pos => subst hca; simp only [if_true] at hcut
  case' neg => simp only [if_neg hca] at hcut
  all_goals
    go_enter Tryz.func115, Tryz.ntmps115
    go_wp2_with (first
      | (go_at_call 112; refine (stopped_ok hR).mono ?_; rintro e w1 ⟨rfl, rfl⟩)
      | (go_at_call 67; refine (left_any hR).mono ?_; rintro e w1 ⟨rfl, q, rfl⟩))
    refine wp_region_still_tail 15 (by kernel_rfl) (by kernel_rfl) ?_
    simp only [List.take_succ_cons, List.take_zero, List.drop_succ_cons, List.drop_zero]
    change wpStill _ _ (w.drewN q).drew _ _ _
    repeat still_step
    refine wpStill_nil ?_
    change wpList _ _ _ _ _ (w.drewN q).drew
    go_wp2_with (go_at_call 61; refine (clone_any _ size _ _ _ ((hcut.more (Nat.le_of_lt hlt)).drewN (q + 1)) (bs_one _) (by omega)).mono ?_; rintro e w2 ⟨v2, rfl, hown2, hb2⟩
                 obtain ⟨A2, c2, rfl, _, _, hr2⟩ := own_slice hown2
                 have hbw : Below w.heap.size w w2 := ((Drawn.one w (q + 1)).below (Below.refl w.heap.size w)).trans hb2
                 have hbl2 := hR.blk.below hbw hlt
                 have hcc := hbl2.cell 1
                 have hcf := hbl2.frozen 1
                 simp only [List.getElem?_toArray, List.getElem?_cons_succ, List.getElem?_cons_zero] at hcc)
    go_ret
    obtain ⟨hto1, hto2⟩ := RdS.goes hR (x := none) rfl size hroom hbw
    exact ⟨⟨A2, size, c2, rfl, own_far hown2 (show g < (w.drewN (q + 1)).heap.size from hlt) _⟩, hto1, hto2⟩
theorem take_is {w : World} {g : Nat} {l : List Nat} {at_ : Nat} {x : Option (Int × Nat)} (n : Int) (h : RdS w g l at_ x) :
    Calls Tryz.prog 115 #[.pointer (some ⟨g, 0, none⟩), .int .i64 n] w
      fun e w' => Bytes (takeS l at_ x n).1 e w' ∧ RdTo w g l (takeS l at_ x n).2.1 (takeS l at_ x n).2.2 w' := by
  cases x with
  | some x =>
    go_enter Tryz.func115, Tryz.ntmps115
    go_wp2_with (go_at_call 112; refine (stopped_err h).mono ?_; rintro e w1 ⟨rfl, rfl⟩)
    go_ret
    exact ⟨⟨none, 0, 0, rfl, Reads.none_⟩, RdTo.same h (Drawn.refl w)⟩
  | none =>
    have hp := h.place
    by_cases h0 : n < 0
    · have hS : takeS l at_ none n = ([], at_, some (1, at_)) := by unfold takeS; simp [h0]
      rw [hS]
      clear hS
      go_enter Tryz.func115, Tryz.ntmps115
      go_wp2_with (first
        | (go_at_call 112; refine (stopped_is h).mono ?_; rintro e w1 ⟨rfl, rfl⟩)
        | (go_at_call 114; refine (stop_is 1 h).mono ?_; rintro e w2 ⟨rfl, hto⟩))
      go_ret
      exact ⟨⟨none, 0, 0, rfl, Reads.none_⟩, hto⟩
    · by_cases h1 : (l.length : Int) - at_ < n
      · have hS : takeS l at_ none n = ([], at_, some (2, at_)) := by unfold takeS; simp [h0, h1]
        rw [hS]
        clear hS
        go_enter Tryz.func115, Tryz.ntmps115
        go_wp2_with (first
          | (go_at_call 112; refine (stopped_is h).mono ?_; rintro e w1 ⟨rfl, rfl⟩)
          | (go_at_call 67; refine (left_is h).mono ?_; rintro e w1 ⟨rfl, hd⟩; have h2 := h.next (hd.below (Below.refl _ _)))
          | (go_at_call 114; refine (stop_is 2 h2).mono ?_; rintro e w2 ⟨rfl, hto⟩))
        go_ret
        exact ⟨⟨none, 0, 0, rfl, Reads.none_⟩, hto.1, only_trans (only_below (World.grownBy.refl w _) (hd.below (Below.refl _ _))) hto.2⟩
      · obtain ⟨k, rfl⟩ := Int.eq_ofNat_of_zero_le (show 0 ≤ n by omega)
        have hS : takeS l at_ none (k : Int) = ((l.drop at_).take k, at_ + k, none) := by unfold takeS; simp [h1]
        rw [hS]
        obtain ⟨A, m, c, err, hR, rfl⟩ := h
        exact take_ok k hR (by have := hR.length; omega)
end Go.Proofs.YticanhidahkhfaaGreatDoor
