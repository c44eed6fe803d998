import Derived.Test.YticanhidahkhfaaGreatDoorJ1
import Derived.Test.YticanhidahkhfaaGreatDoorJ3
import Derived.Deep.LoopGhost
import Derived.Laws.BitsAllLaws
import Derived.Deep.WholeRow
import Derived.StillTailTactics
import Derived.IntWalk
namespace Go.Proofs.YticanhidahkhfaaGreatDoor
open Go.RowKit
set_option linter.unusedVariables false
set_option linter.unusedSimpArgs false
set_option maxRecDepth 100000
theorem rot_or (x n p q : Nat) (hp : 2 ^ n = p) (hq : 2 ^ (32 - n) = q) (hx : x < 4294967296) : bits .or .u32 ((x : Int) * (q : Int) % 4294967296) ((x : Int) / (p : Int)) = (rot x n : Int) := by
  subst hp hq
  rw [show (x : Int) * ((2 ^ (32 - n) : Nat) : Int) % 4294967296 = ((x * 2 ^ (32 - n) % 4294967296 : Nat) : Int) by rw [Int.natCast_emod, Int.natCast_mul]; rfl, show (x : Int) / ((2 ^ n : Nat) : Int) = ((x / 2 ^ n : Nat) : Int) by rw [Int.natCast_ediv]]
  rw [u32_or_nat _ _ (Nat.mod_lt _ (by decide)) (Nat.lt_of_le_of_lt (Nat.div_le_self _ _) hx), Nat.or_comm]
  rfl
theorem rot_or' (x n p q : Nat) (hp : 2 ^ n = p) (hq : 2 ^ (32 - n) = q) (hx : x < 4294967296) : bits .or .u32 ((x : Int) / (p : Int)) ((x : Int) * (q : Int) % 4294967296) = (rot x n : Int) := by
  subst hp hq
  rw [show (x : Int) * ((2 ^ (32 - n) : Nat) : Int) % 4294967296 = ((x * 2 ^ (32 - n) % 4294967296 : Nat) : Int) by rw [Int.natCast_emod, Int.natCast_mul]; rfl, show (x : Int) / ((2 ^ n : Nat) : Int) = ((x / 2 ^ n : Nat) : Int) by rw [Int.natCast_ediv]]
  rw [u32_or_nat _ _ (Nat.lt_of_le_of_lt (Nat.div_le_self _ _) hx) (Nat.mod_lt _ (by decide))]
  rfl
def Wd (w : World) (x : Nat) (e : Ending) (w' : World) : Prop := e = .returned (.int .u32 (x : Int)) ∧ w = w'
theorem rotl_2 (x : Nat) (w : World) (hx : x < 4294967296) : Calls Tryz.prog 276 #[.int .u32 (x : Int), .int .i64 (-2)] w (Wd w (rot x 2)) := by
  have hand : bits .and .u64 (IntKind.u64.wrap (-2)) 31 = 30 := by decide +kernel
  go_enter Tryz.func276, Tryz.ntmps276
  go_wp2_with fail
  go_ret
  exact ⟨ret_of (congrArg (Value.int .u32) (rot_or x 2 4 1073741824 rfl rfl hx)), rfl⟩
theorem turned_2 (x : Nat) (w : World) (hx : x < 4294967296) : Calls Tryz.prog 241 #[.int .u32 (x : Int), .int .i64 2] w (Wd w (rot x 2)) := by
  go_enter Tryz.func241, Tryz.ntmps241
  go_wp2_with fail
  refine (rotl_2 x w hx).mono ?_
  rintro e w' ⟨rfl, rfl⟩
  go_wp2_with fail
  go_ret
  exact ⟨rfl, rfl⟩
theorem r_2 (x : Nat) (w : World) (hx : x < 4294967296) : Calls Tryz.prog 191 #[.int .u32 (x : Int), .int .u64 2] w (Wd w (rot x 2)) := by
  go_enter Tryz.func191, Tryz.ntmps191
  go_wp2_with fail
  go_ret
  exact ⟨ret_of (congrArg (Value.int .u32) (rot_or' x 2 4 1073741824 rfl rfl hx)), rfl⟩
theorem rotl_6 (x : Nat) (w : World) (hx : x < 4294967296) : Calls Tryz.prog 276 #[.int .u32 (x : Int), .int .i64 (-6)] w (Wd w (rot x 6)) := by
  have hand : bits .and .u64 (IntKind.u64.wrap (-6)) 31 = 26 := by decide +kernel
  go_enter Tryz.func276, Tryz.ntmps276
  go_wp2_with fail
  go_ret
  exact ⟨ret_of (congrArg (Value.int .u32) (rot_or x 6 64 67108864 rfl rfl hx)), rfl⟩
theorem turned_6 (x : Nat) (w : World) (hx : x < 4294967296) : Calls Tryz.prog 241 #[.int .u32 (x : Int), .int .i64 6] w (Wd w (rot x 6)) := by
  go_enter Tryz.func241, Tryz.ntmps241
  go_wp2_with fail
  refine (rotl_6 x w hx).mono ?_
  rintro e w' ⟨rfl, rfl⟩
  go_wp2_with fail
  go_ret
  exact ⟨rfl, rfl⟩
theorem r_6 (x : Nat) (w : World) (hx : x < 4294967296) : Calls Tryz.prog 191 #[.int .u32 (x : Int), .int .u64 6] w (Wd w (rot x 6)) := by
  go_enter Tryz.func191, Tryz.ntmps191
  go_wp2_with fail
  go_ret
  exact ⟨ret_of (congrArg (Value.int .u32) (rot_or' x 6 64 67108864 rfl rfl hx)), rfl⟩
theorem rotl_7 (x : Nat) (w : World) (hx : x < 4294967296) : Calls Tryz.prog 276 #[.int .u32 (x : Int), .int .i64 (-7)] w (Wd w (rot x 7)) := by
  have hand : bits .and .u64 (IntKind.u64.wrap (-7)) 31 = 25 := by decide +kernel
  go_enter Tryz.func276, Tryz.ntmps276
  go_wp2_with fail
  go_ret
  exact ⟨ret_of (congrArg (Value.int .u32) (rot_or x 7 128 33554432 rfl rfl hx)), rfl⟩
theorem turned_7 (x : Nat) (w : World) (hx : x < 4294967296) : Calls Tryz.prog 241 #[.int .u32 (x : Int), .int .i64 7] w (Wd w (rot x 7)) := by
  go_enter Tryz.func241, Tryz.ntmps241
  go_wp2_with fail
  refine (rotl_7 x w hx).mono ?_
  rintro e w' ⟨rfl, rfl⟩
  go_wp2_with fail
  go_ret
  exact ⟨rfl, rfl⟩
theorem r_7 (x : Nat) (w : World) (hx : x < 4294967296) : Calls Tryz.prog 191 #[.int .u32 (x : Int), .int .u64 7] w (Wd w (rot x 7)) := by
  go_enter Tryz.func191, Tryz.ntmps191
  go_wp2_with fail
  go_ret
  exact ⟨ret_of (congrArg (Value.int .u32) (rot_or' x 7 128 33554432 rfl rfl hx)), rfl⟩
theorem rotl_11 (x : Nat) (w : World) (hx : x < 4294967296) : Calls Tryz.prog 276 #[.int .u32 (x : Int), .int .i64 (-11)] w (Wd w (rot x 11)) := by
  have hand : bits .and .u64 (IntKind.u64.wrap (-11)) 31 = 21 := by decide +kernel
  go_enter Tryz.func276, Tryz.ntmps276
  go_wp2_with fail
  go_ret
  exact ⟨ret_of (congrArg (Value.int .u32) (rot_or x 11 2048 2097152 rfl rfl hx)), rfl⟩
theorem turned_11 (x : Nat) (w : World) (hx : x < 4294967296) : Calls Tryz.prog 241 #[.int .u32 (x : Int), .int .i64 11] w (Wd w (rot x 11)) := by
  go_enter Tryz.func241, Tryz.ntmps241
  go_wp2_with fail
  refine (rotl_11 x w hx).mono ?_
  rintro e w' ⟨rfl, rfl⟩
  go_wp2_with fail
  go_ret
  exact ⟨rfl, rfl⟩
theorem r_11 (x : Nat) (w : World) (hx : x < 4294967296) : Calls Tryz.prog 191 #[.int .u32 (x : Int), .int .u64 11] w (Wd w (rot x 11)) := by
  go_enter Tryz.func191, Tryz.ntmps191
  go_wp2_with fail
  go_ret
  exact ⟨ret_of (congrArg (Value.int .u32) (rot_or' x 11 2048 2097152 rfl rfl hx)), rfl⟩
theorem rotl_13 (x : Nat) (w : World) (hx : x < 4294967296) : Calls Tryz.prog 276 #[.int .u32 (x : Int), .int .i64 (-13)] w (Wd w (rot x 13)) := by
  have hand : bits .and .u64 (IntKind.u64.wrap (-13)) 31 = 19 := by decide +kernel
  go_enter Tryz.func276, Tryz.ntmps276
  go_wp2_with fail
  go_ret
  exact ⟨ret_of (congrArg (Value.int .u32) (rot_or x 13 8192 524288 rfl rfl hx)), rfl⟩
theorem turned_13 (x : Nat) (w : World) (hx : x < 4294967296) : Calls Tryz.prog 241 #[.int .u32 (x : Int), .int .i64 13] w (Wd w (rot x 13)) := by
  go_enter Tryz.func241, Tryz.ntmps241
  go_wp2_with fail
  refine (rotl_13 x w hx).mono ?_
  rintro e w' ⟨rfl, rfl⟩
  go_wp2_with fail
  go_ret
  exact ⟨rfl, rfl⟩
theorem r_13 (x : Nat) (w : World) (hx : x < 4294967296) : Calls Tryz.prog 191 #[.int .u32 (x : Int), .int .u64 13] w (Wd w (rot x 13)) := by
  go_enter Tryz.func191, Tryz.ntmps191
  go_wp2_with fail
  go_ret
  exact ⟨ret_of (congrArg (Value.int .u32) (rot_or' x 13 8192 524288 rfl rfl hx)), rfl⟩
theorem rotl_17 (x : Nat) (w : World) (hx : x < 4294967296) : Calls Tryz.prog 276 #[.int .u32 (x : Int), .int .i64 (-17)] w (Wd w (rot x 17)) := by
  have hand : bits .and .u64 (IntKind.u64.wrap (-17)) 31 = 15 := by decide +kernel
  go_enter Tryz.func276, Tryz.ntmps276
  go_wp2_with fail
  go_ret
  exact ⟨ret_of (congrArg (Value.int .u32) (rot_or x 17 131072 32768 rfl rfl hx)), rfl⟩
theorem turned_17 (x : Nat) (w : World) (hx : x < 4294967296) : Calls Tryz.prog 241 #[.int .u32 (x : Int), .int .i64 17] w (Wd w (rot x 17)) := by
  go_enter Tryz.func241, Tryz.ntmps241
  go_wp2_with fail
  refine (rotl_17 x w hx).mono ?_
  rintro e w' ⟨rfl, rfl⟩
  go_wp2_with fail
  go_ret
  exact ⟨rfl, rfl⟩
theorem r_17 (x : Nat) (w : World) (hx : x < 4294967296) : Calls Tryz.prog 191 #[.int .u32 (x : Int), .int .u64 17] w (Wd w (rot x 17)) := by
  go_enter Tryz.func191, Tryz.ntmps191
  go_wp2_with fail
  go_ret
  exact ⟨ret_of (congrArg (Value.int .u32) (rot_or' x 17 131072 32768 rfl rfl hx)), rfl⟩
theorem rotl_18 (x : Nat) (w : World) (hx : x < 4294967296) : Calls Tryz.prog 276 #[.int .u32 (x : Int), .int .i64 (-18)] w (Wd w (rot x 18)) := by
  have hand : bits .and .u64 (IntKind.u64.wrap (-18)) 31 = 14 := by decide +kernel
  go_enter Tryz.func276, Tryz.ntmps276
  go_wp2_with fail
  go_ret
  exact ⟨ret_of (congrArg (Value.int .u32) (rot_or x 18 262144 16384 rfl rfl hx)), rfl⟩
theorem turned_18 (x : Nat) (w : World) (hx : x < 4294967296) : Calls Tryz.prog 241 #[.int .u32 (x : Int), .int .i64 18] w (Wd w (rot x 18)) := by
  go_enter Tryz.func241, Tryz.ntmps241
  go_wp2_with fail
  refine (rotl_18 x w hx).mono ?_
  rintro e w' ⟨rfl, rfl⟩
  go_wp2_with fail
  go_ret
  exact ⟨rfl, rfl⟩
theorem r_18 (x : Nat) (w : World) (hx : x < 4294967296) : Calls Tryz.prog 191 #[.int .u32 (x : Int), .int .u64 18] w (Wd w (rot x 18)) := by
  go_enter Tryz.func191, Tryz.ntmps191
  go_wp2_with fail
  go_ret
  exact ⟨ret_of (congrArg (Value.int .u32) (rot_or' x 18 262144 16384 rfl rfl hx)), rfl⟩
theorem rotl_19 (x : Nat) (w : World) (hx : x < 4294967296) : Calls Tryz.prog 276 #[.int .u32 (x : Int), .int .i64 (-19)] w (Wd w (rot x 19)) := by
  have hand : bits .and .u64 (IntKind.u64.wrap (-19)) 31 = 13 := by decide +kernel
  go_enter Tryz.func276, Tryz.ntmps276
  go_wp2_with fail
  go_ret
  exact ⟨ret_of (congrArg (Value.int .u32) (rot_or x 19 524288 8192 rfl rfl hx)), rfl⟩
theorem turned_19 (x : Nat) (w : World) (hx : x < 4294967296) : Calls Tryz.prog 241 #[.int .u32 (x : Int), .int .i64 19] w (Wd w (rot x 19)) := by
  go_enter Tryz.func241, Tryz.ntmps241
  go_wp2_with fail
  refine (rotl_19 x w hx).mono ?_
  rintro e w' ⟨rfl, rfl⟩
  go_wp2_with fail
  go_ret
  exact ⟨rfl, rfl⟩
theorem r_19 (x : Nat) (w : World) (hx : x < 4294967296) : Calls Tryz.prog 191 #[.int .u32 (x : Int), .int .u64 19] w (Wd w (rot x 19)) := by
  go_enter Tryz.func191, Tryz.ntmps191
  go_wp2_with fail
  go_ret
  exact ⟨ret_of (congrArg (Value.int .u32) (rot_or' x 19 524288 8192 rfl rfl hx)), rfl⟩
theorem rotl_22 (x : Nat) (w : World) (hx : x < 4294967296) : Calls Tryz.prog 276 #[.int .u32 (x : Int), .int .i64 (-22)] w (Wd w (rot x 22)) := by
  have hand : bits .and .u64 (IntKind.u64.wrap (-22)) 31 = 10 := by decide +kernel
  go_enter Tryz.func276, Tryz.ntmps276
  go_wp2_with fail
  go_ret
  exact ⟨ret_of (congrArg (Value.int .u32) (rot_or x 22 4194304 1024 rfl rfl hx)), rfl⟩
theorem turned_22 (x : Nat) (w : World) (hx : x < 4294967296) : Calls Tryz.prog 241 #[.int .u32 (x : Int), .int .i64 22] w (Wd w (rot x 22)) := by
  go_enter Tryz.func241, Tryz.ntmps241
  go_wp2_with fail
  refine (rotl_22 x w hx).mono ?_
  rintro e w' ⟨rfl, rfl⟩
  go_wp2_with fail
  go_ret
  exact ⟨rfl, rfl⟩
theorem r_22 (x : Nat) (w : World) (hx : x < 4294967296) : Calls Tryz.prog 191 #[.int .u32 (x : Int), .int .u64 22] w (Wd w (rot x 22)) := by
  go_enter Tryz.func191, Tryz.ntmps191
  go_wp2_with fail
  go_ret
  exact ⟨ret_of (congrArg (Value.int .u32) (rot_or' x 22 4194304 1024 rfl rfl hx)), rfl⟩
theorem rotl_25 (x : Nat) (w : World) (hx : x < 4294967296) : Calls Tryz.prog 276 #[.int .u32 (x : Int), .int .i64 (-25)] w (Wd w (rot x 25)) := by
  have hand : bits .and .u64 (IntKind.u64.wrap (-25)) 31 = 7 := by decide +kernel
  go_enter Tryz.func276, Tryz.ntmps276
  go_wp2_with fail
  go_ret
  exact ⟨ret_of (congrArg (Value.int .u32) (rot_or x 25 33554432 128 rfl rfl hx)), rfl⟩
theorem turned_25 (x : Nat) (w : World) (hx : x < 4294967296) : Calls Tryz.prog 241 #[.int .u32 (x : Int), .int .i64 25] w (Wd w (rot x 25)) := by
  go_enter Tryz.func241, Tryz.ntmps241
  go_wp2_with fail
  refine (rotl_25 x w hx).mono ?_
  rintro e w' ⟨rfl, rfl⟩
  go_wp2_with fail
  go_ret
  exact ⟨rfl, rfl⟩
theorem r_25 (x : Nat) (w : World) (hx : x < 4294967296) : Calls Tryz.prog 191 #[.int .u32 (x : Int), .int .u64 25] w (Wd w (rot x 25)) := by
  go_enter Tryz.func191, Tryz.ntmps191
  go_wp2_with fail
  go_ret
  exact ⟨ret_of (congrArg (Value.int .u32) (rot_or' x 25 33554432 128 rfl rfl hx)), rfl⟩
theorem div_3 (x : Nat) (w : World) (hx : x < 4294967296) : Calls Tryz.prog 192 #[.int .u32 (x : Int), .int .u64 3] w (Wd w (x / 8)) := by
  go_enter Tryz.func192, Tryz.ntmps192
  go_wp2_with fail
  go_ret
  exact ⟨ret_of (congrArg (Value.int .u32) (by rw [Int.natCast_ediv]; rfl)), rfl⟩
theorem div_10 (x : Nat) (w : World) (hx : x < 4294967296) : Calls Tryz.prog 192 #[.int .u32 (x : Int), .int .u64 10] w (Wd w (x / 1024)) := by
  go_enter Tryz.func192, Tryz.ntmps192
  go_wp2_with fail
  go_ret
  exact ⟨ret_of (congrArg (Value.int .u32) (by rw [Int.natCast_ediv]; rfl)), rfl⟩
theorem or_sum (a b i : Nat) (hb : b < 2 ^ i) : a * 2 ^ i ||| b = a * 2 ^ i + b := by
  rw [Nat.mul_comm, Nat.two_pow_add_eq_or_of_lt hb]
theorem wd4_or (a b c d : Nat) (ha : a < 256) (hb : b < 256) (hc : c < 256) (hd : d < 256) :
    bits .or .u32 (bits .or .u32 (bits .or .u32 ((a : Int) * 16777216) ((b : Int) * 65536)) ((c : Int) * 256)) (d : Int) = ((((a * 256 + b) * 256 + c) * 256 + d : Nat) : Int) := by
  have e1 : a * 16777216 ||| b * 65536 = (a * 256 + b) * 65536 := by
    rw [show a * 16777216 = a * 2 ^ 24 from rfl, or_sum a _ 24 (by omega)]; omega
  have e2 : (a * 256 + b) * 65536 ||| c * 256 = ((a * 256 + b) * 256 + c) * 256 := by
    rw [show (a * 256 + b) * 65536 = (a * 256 + b) * 2 ^ 16 from rfl, or_sum _ _ 16 (by omega)]; omega
  have e3 : ((a * 256 + b) * 256 + c) * 256 ||| d = ((a * 256 + b) * 256 + c) * 256 + d := or_sum _ _ 8 (by omega)
  rw [show (a : Int) * 16777216 = ((a * 16777216 : Nat) : Int) by rfl, show (b : Int) * 65536 = ((b * 65536 : Nat) : Int) by rfl, show (c : Int) * 256 = ((c * 256 : Nat) : Int) by rfl,
    u32_or_nat _ _ (by omega) (by omega), e1, u32_or_nat _ _ (by omega) (by omega), e2, u32_or_nat _ _ (by omega) (by omega), e3]
theorem getD_of {l : List Nat} {k b : Nat} (h : l[k]? = some b) : l.getD k 0 = b := by rw [List.getD_eq_getElem?_getD, h]; rfl
theorem word_any (A : Option Addr) (n c : Nat) (l : List Nat) (w : World) (hr : Reads w w.heap.size 1 A n (bs l)) (hl : ∀ b ∈ l, b < 256) (hn : 4 ≤ n) :
    Calls Tryz.prog 275 #[.slice A n c] w fun e w' => e = .returned (.int .u32 (wd4 l 0 : Int)) ∧ Drawn w w' := by
  obtain ⟨b, off, rfl, _, hc⟩ := hr.plain (by omega)
  have hlen : l.length = n := by have := hr.1; rw [bs_length] at this; omega
  obtain ⟨x0, h0⟩ : ∃ x, l[0]? = some x := ⟨_, List.getElem?_eq_getElem (by omega)⟩
  obtain ⟨x1, h1⟩ : ∃ x, l[1]? = some x := ⟨_, List.getElem?_eq_getElem (by omega)⟩
  obtain ⟨x2, h2⟩ : ∃ x, l[2]? = some x := ⟨_, List.getElem?_eq_getElem (by omega)⟩
  obtain ⟨x3, h3⟩ : ∃ x, l[3]? = some x := ⟨_, List.getElem?_eq_getElem (by omega)⟩
  have l0 := hl _ (List.mem_of_getElem? h0)
  have l1 := hl _ (List.mem_of_getElem? h1)
  have l2 := hl _ (List.mem_of_getElem? h2)
  have l3 := hl _ (List.mem_of_getElem? h3)
  have c0 := hc 0 (.int .u8 (x0 : Int)) (by unfold bs; rw [List.getElem?_map, h0]; rfl)
  have c1 := hc 1 (.int .u8 (x1 : Int)) (by unfold bs; rw [List.getElem?_map, h1]; rfl)
  have c2 := hc 2 (.int .u8 (x2 : Int)) (by unfold bs; rw [List.getElem?_map, h2]; rfl)
  have c3 := hc 3 (.int .u8 (x3 : Int)) (by unfold bs; rw [List.getElem?_map, h3]; rfl)
  rw [Nat.add_zero] at c0
  have E := Lib.hid (show wd4 l 0 = ((x0 * 256 + x1) * 256 + x2) * 256 + x3 by
    unfold wd4
    rw [getD_of h0, getD_of h1, getD_of h2, getD_of h3])
  have hor := Lib.hid (wd4_or x0 x1 x2 x3 l0 l1 l2 l3)
  clear h0 h1 h2 h3 hc hl hlen hr
  have g0 : (0 : Int) < (n : Int) := by omega
  have g1 : (1 : Int) < (n : Int) := by omega
  have g2 : (2 : Int) < (n : Int) := by omega
  have g3 : (3 : Int) < (n : Int) := by omega
  go_enter Tryz.func275, Tryz.ntmps275
  go_wp2_with fail
  go_quiet (fail)
  go_wp2_with fail
  go_ret
  refine ⟨ret_of (congrArg (Value.int .u32) ?_), _, rfl⟩
  rw [E.out]
  exact hor.out
end Go.Proofs.YticanhidahkhfaaGreatDoor
namespace Go.Proofs.YticanhidahkhfaaGreatDoor
open Go.RowKit
section
variable {P : Program} {w : World} {g : Nat} {t : TypeId} {cs cs' : Array Value}
theorem run_loadAt_row {n : Nat} {e : TypeId} (h : Blk w g t cs) (hu : P.underlying t = some (.array n e)) (hi : (P.info? t).map (·.size) = some cs.size) :
    (Instr.loadAt t (.pointer (some ⟨g, 0, none⟩))).run P w = .ok (.agg cs) w := by
  simp only [Instr.loadAt, Instr.sureAddr, Sem.run_bind, Sem.run_pure, Result.andThen]
  exact run_loadVar_row _ _ t t cs (0, 0) _ h hu rfl hi
theorem run_storeAt_row (h : Blk w g t cs) (hi : (P.info? t).map (·.size) = some cs'.size) (ho : cs.size = cs'.size) (h1 : cs'.all (·.oneCell') = true) :
    (Instr.storeAt t (.pointer (some ⟨g, 0, none⟩)) (.agg cs')).run P w = .ok () (w.setRow g cs') := by
  simp only [Instr.storeAt, Instr.sureAddr, Sem.run_bind, Sem.run_pure, Result.andThen]
  exact run_storeVar_row _ _ t t cs cs' h hi ho h1
theorem run_storeCells_row (h : Blk w g t cs) (hi : (P.info? t).map (·.size) = some cs'.size) (ho : cs.size = cs'.size) (h1 : cs'.all (·.oneCell') = true) :
    (storeCells ⟨g, 0, none⟩ cs'.toList 0).run P w = .ok () (w.setRow g cs') := by
  have := run_storeVar_row (P := P) _ _ t t cs cs' h hi ho h1
  cases hq : P.info? t with
  | none => simp [hq] at hi
  | some i =>
    have hs : cs'.size = i.size := by simp [hq] at hi; omega
    simpa [storeVar, sizeOf, typeInfo, hq, Value.cells, hs] using this
theorem wp_load_row {o : Oper} {a : Act} {K : Act → World → Prop} {Q : Exit → Act → World → Prop} {n : Nat} {e : TypeId} (p : Operand) (ho : o.op = .load t p) (hp : a.eval p = .pointer (some ⟨g, 0, none⟩))
    (h : Blk w g t cs) (hu : P.underlying t = some (.array n e)) (hi : (P.info? t).map (·.size) = some cs.size) (hK : K (a.put o.dst (.agg cs)) w) : o.wp P a w K Q := by
  unfold Oper.wp execOp
  simp only [ho, hp, Sem.run_bind, Sem.run_pure, run_loadAt_row h hu hi, Result.andThen_ok]
  exact hK
theorem wpList_load_row {ops : Array Oper} {rest : List Oper} {o : Oper} {a : Act} {Q : Exit → Act → World → Prop} {n : Nat} {e : TypeId} (hgd : o.guard = none) (p : Operand) (ho : o.op = .load t p) (hp : a.eval p = .pointer (some ⟨g, 0, none⟩))
    (h : Blk w g t cs) (hu : P.underlying t = some (.array n e)) (hi : (P.info? t).map (·.size) = some cs.size) (hK : wpList P ops Q rest (a.put o.dst (.agg cs)) w) : wpList P ops Q (o :: rest) a w :=
  wpList_plain hgd fun _ hK' => wp_load_row p ho hp h hu hi (hK' _ _ hK)
theorem wp_store_row {o : Oper} {a : Act} {K : Act → World → Prop} {Q : Exit → Act → World → Prop} (p v : Operand) (ho : o.op = .store t p v) (hp : a.eval p = .pointer (some ⟨g, 0, none⟩)) (hv : a.eval v = .agg cs')
    (h : Blk w g t cs) (hi : (P.info? t).map (·.size) = some cs'.size) (hs : cs.size = cs'.size) (h1 : cs'.all (·.oneCell') = true) (hK : K (a.put o.dst undef) (w.setRow g cs')) : o.wp P a w K Q := by
  unfold Oper.wp execOp
  simp only [ho, hp, hv, Sem.run_bind, Sem.run_pure, run_storeAt_row h hi hs h1, Result.andThen_ok]
  exact hK
theorem wpList_store_row {ops : Array Oper} {rest : List Oper} {o : Oper} {a : Act} {Q : Exit → Act → World → Prop} (hgd : o.guard = none) (p v : Operand) (ho : o.op = .store t p v) (hp : a.eval p = .pointer (some ⟨g, 0, none⟩)) (hv : a.eval v = .agg cs')
    (h : Blk w g t cs) (hi : (P.info? t).map (·.size) = some cs'.size) (hs : cs.size = cs'.size) (h1 : cs'.all (·.oneCell') = true) (hK : wpList P ops Q rest (a.put o.dst undef) (w.setRow g cs')) : wpList P ops Q (o :: rest) a w :=
  wpList_plain hgd fun _ hK' => wp_store_row p v ho hp hv h hi hs h1 (hK' _ _ hK)
theorem run_index_row {n : Nat} {e : TypeId} (ht : P.underlying t = some (.array n e)) (hagg : ∀ W, (isAgg e).run P W = .ok false W) (hsz : ∀ W, (sizeOf e).run P W = .ok 1 W) {i : Nat} {v : Value} (hi : i < n) (hv : cs[i]? = some v) (W : World) :
    (Instr.index t (.agg cs) (.int .i64 (i : Int))).run P W = .ok v W := by
  simp [Instr.index, run_underlying ht, asIntOf, part, hagg, hsz, hv, hi, Result.andThen, Sem.run_bind]
theorem Blk.row (h : Blk w g t cs) (cs' : Array Value) : Blk (w.setRow g cs') g t cs' := setRow_heap w g cs cs' t (0, 0) h
theorem Blk.rowFar (h : Blk w g t cs) {k : Nat} (hk : g ≠ k) (cs' : Array Value) : Blk (w.setRow k cs') g t cs := (setRow_other w k g cs' hk).trans h
theorem Below.row {B : Nat} {w0 : World} (h : Below B w0 w) (hg : B ≤ g) (cs' : Array Value) : Below B w0 (w.setRow g cs') := by
  refine ⟨?_, ?_, ?_, ?_, ?_⟩
  all_goals first | exact h.os | exact h.tape | exact h.output | (rw [setRow_size]; exact h.size) | (intro i hi; exact (setRow_other w g i cs' (by omega)).trans (h.block i hi))
end
theorem results_cell {fn : Func} {p : Tmp} {ty : TypeId} (h : fn.results = #[.cell p ty]) (tmps : Array Value) (P : Program) (w : World) :
    (results fn tmps).run P w = ((asAddr (tmps.getD p undef)).run P w).andThen fun a w₁ => (loadVar ty a).run P w₁ := by
  simp only [results, h]
  simp [Sem.run_bind, Result.andThen]
end Go.Proofs.YticanhidahkhfaaGreatDoor
namespace Go.Proofs.YticanhidahkhfaaGreatDoor
open Go.RowKit
set_option linter.unusedVariables false
set_option linter.unusedSimpArgs false
set_option maxRecDepth 100000
def wAt (l : List Nat) (t : Nat) : Nat := (wsN l 64).getD t 0
theorem wsN_pre (l : List Nat) (n : Nat) : ∀ k, wsN l n <+: wsN l (n + k) := by
  intro k
  induction k with
  | zero => exact List.prefix_refl _
  | succ k ih => exact ih.trans (List.prefix_append _ _)
theorem wsN_getD (l : List Nat) (t i : Nat) (hi : i < t) (ht : t ≤ 64) : (wsN l t).getD i 0 = wAt l i := by
  obtain ⟨k, hk⟩ : ∃ k, 64 = t + k := ⟨64 - t, by omega⟩
  unfold wAt
  obtain ⟨r, hr⟩ := wsN_pre l t k
  rw [show (64 : Nat) = t + k by omega, ← hr, List.getD_eq_getElem?_getD, List.getD_eq_getElem?_getD, List.getElem?_append_left (by rw [wsN_length]; exact hi)]
theorem wAt_next (l : List Nat) (t : Nat) (ht : t < 64) : wAt l t = nextW l t (wsN l t) := by
  rw [← wsN_getD l (t + 1) t (by omega) (by omega)]
  show (wsN l t ++ [nextW l t (wsN l t)]).getD t 0 = _
  rw [List.getD_eq_getElem?_getD, List.getElem?_append_right (by rw [wsN_length]; omega), wsN_length, Nat.sub_self]
  rfl
theorem wAt_own (l : List Nat) (t : Nat) (ht : t < 16) : wAt l t = wd4 (l.drop (4 * t)) 0 := by
  rw [wAt_next l t (by omega)]
  unfold nextW
  rw [if_pos ht]
  unfold wd4
  simp [List.getD_eq_getElem?_getD, List.getElem?_drop]
theorem wAt_made (l : List Nat) (t : Nat) (h : 16 ≤ t) (ht : t < 64) : wAt l t = ad (ad (ad (wAt l (t - 16)) (sg0 (wAt l (t - 15)))) (wAt l (t - 7))) (sg1 (wAt l (t - 2))) := by
  rw [wAt_next l t ht]
  unfold nextW
  rw [if_neg (by omega), wsN_getD l t (t - 16) (by omega) (by omega), wsN_getD l t (t - 15) (by omega) (by omega), wsN_getD l t (t - 7) (by omega) (by omega), wsN_getD l t (t - 2) (by omega) (by omega)]
theorem wAt_lt {l : List Nat} (h : ∀ x ∈ l, x < 256) (t : Nat) : wAt l t < 4294967296 := getD_lt (wsN_lt h 64) (by decide) t
attribute [irreducible] wAt
def wV (l : List Nat) (t : Nat) : Array Value := Array.ofFn (n := 64) fun i => Value.int .u32 ((if i.val < t then wAt l i.val else 0 : Nat) : Int)
theorem wV_size (l : List Nat) (t : Nat) : (wV l t).size = 64 := by simp [wV]
theorem wV_zero (l : List Nat) : wV l 0 = Array.replicate 64 (.int .u32 0) := by
  apply Array.ext
  · simp [wV]
  · intro i h1 h2
    simp [wV]
theorem wV_one (l : List Nat) (t : Nat) : (wV l t).all (·.oneCell') = true := by
  rw [Array.all_eq_true]
  intro i h
  simp [wV]
  rfl
theorem wV_next (l : List Nat) (t : Nat) (h : t < 64) : (wV l t).setIfInBounds t (.int .u32 ((wAt l t : Nat) : Int)) = wV l (t + 1) := by
  apply Array.ext
  · simp [wV]
  · intro i h1 h2
    rw [Array.getElem_setIfInBounds (by rw [wV_size]; simpa [wV] using h2)]
    by_cases hi : t = i
    · subst hi
      simp [wV]
    · rw [if_neg hi]
      have e : (i < t) = (i < t + 1) := propext (by omega)
      simp [wV, e]
theorem wV_at (l : List Nat) (t i : Nat) (h : i < t) (ht : t ≤ 64) : (wV l t)[i]? = some (.int .u32 ((wAt l i : Nat) : Int)) := by
  rw [Array.getElem?_eq_getElem (by rw [wV_size]; omega)]
  simp [wV, h]
theorem wV_old (l : List Nat) (t : Nat) (h : t < 64) : (wV l t)[t]? = some (.int .u32 0) := by
  rw [Array.getElem?_eq_getElem (by rw [wV_size]; exact h)]
  simp [wV]
attribute [irreducible] wV
theorem sg0_bits (x : Nat) (hx : x < 4294967296) : ∃ m : Nat, bits .xor .u32 (rot x 7 : Int) (rot x 18 : Int) = (m : Int) ∧ bits .xor .u32 (m : Int) ((x : Int) / 8) = (sg0 x : Int) := by
  refine ⟨rot x 7 ^^^ rot x 18, u32_xor_nat _ _ (rot_lt _ hx) (rot_lt _ hx), ?_⟩
  rw [show (x : Int) / 8 = ((x / 8 : Nat) : Int) by rw [Int.natCast_ediv]; rfl, u32_xor_nat _ _ (xor_lt (rot_lt _ hx) (rot_lt _ hx)) (by omega)]
  rfl
theorem sg1_bits (x : Nat) (hx : x < 4294967296) : ∃ m : Nat, bits .xor .u32 (rot x 17 : Int) (rot x 19 : Int) = (m : Int) ∧ bits .xor .u32 (m : Int) ((x : Int) / 1024) = (sg1 x : Int) := by
  refine ⟨rot x 17 ^^^ rot x 19, u32_xor_nat _ _ (rot_lt _ hx) (rot_lt _ hx), ?_⟩
  rw [show (x : Int) / 1024 = ((x / 1024 : Nat) : Int) by rw [Int.natCast_ediv]; rfl, u32_xor_nat _ _ (xor_lt (rot_lt _ hx) (rot_lt _ hx)) (by omega)]
  rfl
theorem wrap_ad (a b : Nat) : IntKind.u32.wrap ((a : Int) + (b : Int)) = (ad a b : Int) := by
  unfold ad
  rw [Int.natCast_emod, Int.natCast_add]
  rfl
theorem info_words : (Tryz.prog.info? 297).map (fun i => (i.zero, i.size)) = some (some (.agg (Array.replicate 64 (.int .u32 0))), 64) := by kernel_rfl
set_option maxHeartbeats 1000000 in
theorem words_any (A : Option Addr) (c : Nat) (l : List Nat) (w : World) (hr : Reads w w.heap.size 1 A 64 (bs l)) (hl : ∀ b ∈ l, b < 256) (hc : 64 ≤ c) :
    Calls Tryz.prog 240 #[.slice A 64 c] w fun e w' => e = .returned (.agg (wV l 64)) ∧ Below w.heap.size w w' := by
  have hz := (zero_of_info info_words).1
  have hsz := Lib.hid (zero_of_info info_words).2
  have HL := Lib.hid hl; clear hl
  go_enter Tryz.func240, Tryz.ntmps240
  go_wp2_with fail
  rw [← wV_zero l]
  have hB0 := Blk.new w 297 (wV l 0)
  have hb0 : Below w.heap.size w (w.alloc (.cells (wV l 0) 297)) := (Below.refl _ _).alloc (Nat.le_refl _) _
  obtain ⟨w1, hw1⟩ : ∃ w1 : World, w1 = w.alloc (.cells (wV l 0) 297) := ⟨_, rfl⟩
  rw [← hw1] at hB0 hb0 ⊢
  clear hw1 hz
  have HB := Lib.hid hB0; clear hB0
  go_loopg [11] 16 (fun g s11 wr => ∃ t : Nat, t + g = 16 ∧ s11 = .int .i64 (t : Int) ∧ Hid (Blk wr w.heap.size 297 (wV l t)) ∧ Below w.heap.size w wr)
  case atStart => exact ⟨0, by omega, rfl, HB, hb0⟩
  case round =>
    obtain ⟨t, htg, rfl, hB, hb⟩ := hrel
    cases gk with
    | zero =>
      obtain rfl : t = 16 := by omega
      clear htg
      go_wp2_with fail
      go_loopg [5, 6, 7, 8, 9] 48 (fun g s5 s6 s7 s8 s9 wr => ∃ t : Nat, t + g = 64 ∧ 16 ≤ t ∧ s5 = .int .i64 (t : Int) ∧ Hid (Blk wr w.heap.size 297 (wV l t)) ∧ Below w.heap.size w wr)
      case atStart => exact ⟨16, by omega, by omega, rfl, hB, hb⟩
      case round =>
        obtain ⟨t, htg, ht16, rfl, hB, hb⟩ := hrel
        cases gk with
        | zero =>
          obtain rfl : t = 64 := by omega
          clear htg
          have hB0 := hB.out
          have hts := wV_size l 64
          have hb2 := Below.row hb (Nat.le_refl _) (wV l 64)
          have HB0 := Lib.hid hB0
          clear hB0
          go_wp2_with (first
            | refine wpList_load_row (by rfl) (.tmp 2) (by rfl) (by rfl) HB0.out Tryz.underlying297 (by rw [wV_size]; exact hsz.out) ?_
            | refine wpList_store_row (by rfl) (.tmp 2) (.tmp 66) (by rfl) (by rfl) (by rfl) HB0.out (by rw [wV_size]; exact hsz.out) (by rfl) (wV_one _ _) ?_)
          exact bodyPost_ret (v := .agg (wV l 64)) (results_cell_row rfl _ _ _ _ _ _ _ (by rfl) (HB0.out.row (wV l 64)) Tryz.underlying297 rfl (by rw [wV_size]; exact hsz.out)) rfl ⟨rfl, hb2⟩
        | succ g =>
          have ht : t < 64 := by omega
          have ht2 : (t : Int) < 64 := by omega
          obtain ⟨i15, h15⟩ : ∃ i : Nat, i = t - 15 := ⟨_, rfl⟩
          obtain ⟨i2, h2⟩ : ∃ i : Nat, i = t - 2 := ⟨_, rfl⟩
          obtain ⟨i16, h16⟩ : ∃ i : Nat, i = t - 16 := ⟨_, rfl⟩
          obtain ⟨i7, h7⟩ : ∃ i : Nat, i = t - 7 := ⟨_, rfl⟩
          have e15 : (t : Int) - 15 = (i15 : Int) := by omega
          have e2 : (t : Int) - 2 = (i2 : Int) := by omega
          have e16 : (t : Int) - 16 = (i16 : Int) := by omega
          have e7 : (t : Int) - 7 = (i7 : Int) := by omega
          have l15 : (i15 : Int) < 64 := by omega
          have l2 : (i2 : Int) < 64 := by omega
          have l16 : (i16 : Int) < 64 := by omega
          have l7 : (i7 : Int) < 64 := by omega
          have hcell : ∀ i, i < t → wr.cell? ⟨w.heap.size, i, none⟩ = some (.int .u32 (wAt l i : Int)) := fun i hi => by rw [hB.out.cell]; exact wV_at l t i hi (by omega)
          have c15 := hcell i15 (by omega)
          have c2 := hcell i2 (by omega)
          have C16 := Lib.hid (wV_at l t i16 (by omega) (by omega))
          have C7 := Lib.hid (wV_at l t i7 (by omega) (by omega))
          have CT := Lib.hid (wV_old l t ht)
          have hmade := wAt_made l t ht16 ht
          rw [← h15, ← h2, ← h16, ← h7] at hmade
          have b15 := wAt_lt HL.out i15
          have b2 := wAt_lt HL.out i2
          generalize wAt l i15 = x at c15 hmade b15
          generalize wAt l i2 = y at c2 hmade b2
          generalize wAt l i16 = z at C16 hmade
          generalize wAt l i7 = v at C7 hmade
          obtain ⟨m0, hm0, hm0'⟩ := sg0_bits x b15
          obtain ⟨m1, hm1, hm1'⟩ := sg1_bits y b2
          have hw1 := wrap_ad z (sg0 x)
          have hw2 := wrap_ad (ad z (sg0 x)) v
          have hw3 := wrap_ad (ad (ad z (sg0 x)) v) (sg1 y)
          rw [← hmade] at hw3
          have HM := Lib.hid hmade
          clear hmade hcell h15 h2 h16 h7
          go_wp2_with fail
          go_quiet (fail)
          go_wp2_with fail
          refine (turned_7 x _ b15).mono ?_
          rintro e w' ⟨rfl, rfl⟩
          go_wp2_with fail
          refine (turned_18 x _ b15).mono ?_
          rintro e w' ⟨rfl, rfl⟩
          go_wp2_with fail
          refine (turned_17 y _ b2).mono ?_
          rintro e w' ⟨rfl, rfl⟩
          go_wp2_with fail
          refine (turned_19 y _ b2).mono ?_
          rintro e w' ⟨rfl, rfl⟩
          go_wp2_with fail
          obtain ⟨wq, hwq⟩ : ∃ wq : World, wq = wr.drewN nq := ⟨_, rfl⟩
          have hBq : Blk wq w.heap.size 297 (wV l t) := by rw [hwq]; exact hB.out.drewN nq
          have hbq : Below w.heap.size w wq := by rw [hwq]; exact (Drawn.one wr nq).below hb
          rw [← hwq]
          clear hwq c15 c2
          have c16 := hBq.cell i16
          have c7 := hBq.cell i7
          have ct := hBq.cell t
          rw [C16.out] at c16
          rw [C7.out] at c7
          rw [CT.out] at ct
          have hfz := hBq.frozen t
          have HBQ := Lib.hid hBq; clear hBq
          have ww1 : IntKind.i64.wrap (i16 : Int) = (i16 : Int) := IntWalk.i64_in _ (by omega)
          have ww2 : IntKind.i64.wrap (i7 : Int) = (i7 : Int) := IntWalk.i64_in _ (by omega)
          refine wp_region_still_tail 15 (by kernel_rfl) (by kernel_rfl) ?_
          simp only [List.take_succ_cons, List.take_zero, List.drop_succ_cons, List.drop_zero]
          change wpStill _ _ wq.drew _ _ _
          repeat still_step
          refine wpStill_nil ?_
          go_wp2_with fail
          go_roundg g
          case measure => omega
          case rel =>
            refine ⟨t + 1, by omega, by omega, by go_num, Lib.hid ?_, ?_⟩
            · have := HBQ.out.drew.set_ t (.int .u32 ((wAt l t : Nat) : Int))
              rwa [wV_next l t ht] at this
            · exact ((Drawn.one wq 1).below hbq).setCell (Nat.le_refl _) _
    | succ g =>
      have ht : t < 16 := by omega
      have ht2 : (t : Int) < 16 := by omega
      obtain ⟨q, hq⟩ : ∃ q : Nat, q = 4 * t := ⟨_, rfl⟩
      have hqi : (t : Int) * 4 = (q : Int) := by omega
      have hq60 : q ≤ 60 := by omega
      have hcq : ¬ c = q := by omega
      have hcut := ((hr.below hb).cut (k := q) (by omega) hc).more hb.size
      rw [if_neg hcq] at hcut
      have hcut2 : Reads wr wr.heap.size 1 (A.map (·.add q)) (64 - q) (bs (l.drop q)) := by simpa [bs_drop] using hcut
      have hcall := word_any _ _ (c - q) _ wr hcut2 (fun b h => HL.out b (List.mem_of_mem_drop h)) (by omega)
      rw [hq, ← wAt_own l t ht, ← hq] at hcall
      have HC := Lib.hid hcall; clear hcut hcut2 hcall
      have HQ := Lib.hid hq; clear hq
      go_wp2_with fail
      refine HC.out.mono ?_
      rintro e w2 ⟨rfl, q2, rfl⟩
      have hBd := hB.out.drewN q2
      have hcell := hBd.cell t
      rw [wV_old l t (by omega)] at hcell
      have hfz := hBd.frozen t
      clear hBd
      go_wp2_with fail
      go_roundg g
      case measure => omega
      case rel =>
        refine ⟨t + 1, by omega, by go_num, Lib.hid ?_, ?_⟩
        · have := (hB.out.drewN q2).set_ t (.int .u32 ((wAt l t : Nat) : Int))
          rwa [wV_next l t (by omega)] at this
        · exact ((Drawn.one wr q2).below hb).setCell (by simp) _
end Go.Proofs.YticanhidahkhfaaGreatDoor
