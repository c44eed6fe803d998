/- Contracts of the words that are turned, over the program's own functions and the document's; of a word of four bytes. No condition beside the numbers' own size. -/
import Derived.Test.YtfpbijnlmlaloaaDoorJ2
import Derived.Test.YtfpbijnlmlaloaaDoorShaPlain
import Derived.Deep.LoopGhost
import Derived.Laws.BitsAllLaws
namespace Go.Proofs.YtfpbijnlmlaloaaDoor
open Go.RowKit
set_option linter.unusedVariables false
set_option linter.unusedSimpArgs false
set_option maxRecDepth 100000

theorem rot_or (x n p q : Nat) (hp : 2 ^ n = p) (hq : 2 ^ (32 - n) = q) (hx : x < 4294967296) : bits .or .u32 ((x : Int) * (q : Int) % 4294967296) ((x : Int) / (p : Int)) = (rot x n : Int) := by
  subst hp hq
  rw [show (x : Int) * ((2 ^ (32 - n) : Nat) : Int) % 4294967296 = ((x * 2 ^ (32 - n) % 4294967296 : Nat) : Int) by rw [Int.natCast_emod, Int.natCast_mul]; rfl, show (x : Int) / ((2 ^ n : Nat) : Int) = ((x / 2 ^ n : Nat) : Int) by rw [Int.natCast_ediv]]
  rw [u32_or_nat _ _ (Nat.mod_lt _ (by decide)) (Nat.lt_of_le_of_lt (Nat.div_le_self _ _) hx), Nat.or_comm]
  rfl
theorem rot_or' (x n p q : Nat) (hp : 2 ^ n = p) (hq : 2 ^ (32 - n) = q) (hx : x < 4294967296) : bits .or .u32 ((x : Int) / (p : Int)) ((x : Int) * (q : Int) % 4294967296) = (rot x n : Int) := by
  subst hp hq
  rw [show (x : Int) * ((2 ^ (32 - n) : Nat) : Int) % 4294967296 = ((x * 2 ^ (32 - n) % 4294967296 : Nat) : Int) by rw [Int.natCast_emod, Int.natCast_mul]; rfl, show (x : Int) / ((2 ^ n : Nat) : Int) = ((x / 2 ^ n : Nat) : Int) by rw [Int.natCast_ediv]]
  rw [u32_or_nat _ _ (Nat.lt_of_le_of_lt (Nat.div_le_self _ _) hx) (Nat.mod_lt _ (by decide))]
  rfl
/-- What a call answers that tells a word and changes nothing. -/
def Wd (w : World) (x : Nat) (e : Ending) (w' : World) : Prop := e = .returned (.int .u32 (x : Int)) ∧ w = w'
theorem rotl_2 (x : Nat) (w : World) (hx : x < 4294967296) : Calls Tryd.prog 52 #[.int .u32 (x : Int), .int .i64 (-2)] w (Wd w (rot x 2)) := by
  have hand : bits .and .u64 (IntKind.u64.wrap (-2)) 31 = 30 := by decide +kernel
  go_enter Tryd.func52, Tryd.ntmps52
  go_wp2_with fail
  go_ret
  exact ⟨ret_of (congrArg (Value.int .u32) (rot_or x 2 4 1073741824 rfl rfl hx)), rfl⟩
theorem turned_2 (x : Nat) (w : World) (hx : x < 4294967296) : Calls Tryd.prog 50 #[.int .u32 (x : Int), .int .i64 2] w (Wd w (rot x 2)) := by
  go_enter Tryd.func50, Tryd.ntmps50
  go_wp2_with fail
  refine (rotl_2 x w hx).mono ?_
  rintro e w' ⟨rfl, rfl⟩
  go_wp2_with fail
  go_ret
  exact ⟨rfl, rfl⟩
theorem r_2 (x : Nat) (w : World) (hx : x < 4294967296) : Calls Tryd.prog 47 #[.int .u32 (x : Int), .int .u64 2] w (Wd w (rot x 2)) := by
  go_enter Tryd.func47, Tryd.ntmps47
  go_wp2_with fail
  go_ret
  exact ⟨ret_of (congrArg (Value.int .u32) (rot_or' x 2 4 1073741824 rfl rfl hx)), rfl⟩
theorem rotl_6 (x : Nat) (w : World) (hx : x < 4294967296) : Calls Tryd.prog 52 #[.int .u32 (x : Int), .int .i64 (-6)] w (Wd w (rot x 6)) := by
  have hand : bits .and .u64 (IntKind.u64.wrap (-6)) 31 = 26 := by decide +kernel
  go_enter Tryd.func52, Tryd.ntmps52
  go_wp2_with fail
  go_ret
  exact ⟨ret_of (congrArg (Value.int .u32) (rot_or x 6 64 67108864 rfl rfl hx)), rfl⟩
theorem turned_6 (x : Nat) (w : World) (hx : x < 4294967296) : Calls Tryd.prog 50 #[.int .u32 (x : Int), .int .i64 6] w (Wd w (rot x 6)) := by
  go_enter Tryd.func50, Tryd.ntmps50
  go_wp2_with fail
  refine (rotl_6 x w hx).mono ?_
  rintro e w' ⟨rfl, rfl⟩
  go_wp2_with fail
  go_ret
  exact ⟨rfl, rfl⟩
theorem r_6 (x : Nat) (w : World) (hx : x < 4294967296) : Calls Tryd.prog 47 #[.int .u32 (x : Int), .int .u64 6] w (Wd w (rot x 6)) := by
  go_enter Tryd.func47, Tryd.ntmps47
  go_wp2_with fail
  go_ret
  exact ⟨ret_of (congrArg (Value.int .u32) (rot_or' x 6 64 67108864 rfl rfl hx)), rfl⟩
theorem rotl_7 (x : Nat) (w : World) (hx : x < 4294967296) : Calls Tryd.prog 52 #[.int .u32 (x : Int), .int .i64 (-7)] w (Wd w (rot x 7)) := by
  have hand : bits .and .u64 (IntKind.u64.wrap (-7)) 31 = 25 := by decide +kernel
  go_enter Tryd.func52, Tryd.ntmps52
  go_wp2_with fail
  go_ret
  exact ⟨ret_of (congrArg (Value.int .u32) (rot_or x 7 128 33554432 rfl rfl hx)), rfl⟩
theorem turned_7 (x : Nat) (w : World) (hx : x < 4294967296) : Calls Tryd.prog 50 #[.int .u32 (x : Int), .int .i64 7] w (Wd w (rot x 7)) := by
  go_enter Tryd.func50, Tryd.ntmps50
  go_wp2_with fail
  refine (rotl_7 x w hx).mono ?_
  rintro e w' ⟨rfl, rfl⟩
  go_wp2_with fail
  go_ret
  exact ⟨rfl, rfl⟩
theorem r_7 (x : Nat) (w : World) (hx : x < 4294967296) : Calls Tryd.prog 47 #[.int .u32 (x : Int), .int .u64 7] w (Wd w (rot x 7)) := by
  go_enter Tryd.func47, Tryd.ntmps47
  go_wp2_with fail
  go_ret
  exact ⟨ret_of (congrArg (Value.int .u32) (rot_or' x 7 128 33554432 rfl rfl hx)), rfl⟩
theorem rotl_11 (x : Nat) (w : World) (hx : x < 4294967296) : Calls Tryd.prog 52 #[.int .u32 (x : Int), .int .i64 (-11)] w (Wd w (rot x 11)) := by
  have hand : bits .and .u64 (IntKind.u64.wrap (-11)) 31 = 21 := by decide +kernel
  go_enter Tryd.func52, Tryd.ntmps52
  go_wp2_with fail
  go_ret
  exact ⟨ret_of (congrArg (Value.int .u32) (rot_or x 11 2048 2097152 rfl rfl hx)), rfl⟩
theorem turned_11 (x : Nat) (w : World) (hx : x < 4294967296) : Calls Tryd.prog 50 #[.int .u32 (x : Int), .int .i64 11] w (Wd w (rot x 11)) := by
  go_enter Tryd.func50, Tryd.ntmps50
  go_wp2_with fail
  refine (rotl_11 x w hx).mono ?_
  rintro e w' ⟨rfl, rfl⟩
  go_wp2_with fail
  go_ret
  exact ⟨rfl, rfl⟩
theorem r_11 (x : Nat) (w : World) (hx : x < 4294967296) : Calls Tryd.prog 47 #[.int .u32 (x : Int), .int .u64 11] w (Wd w (rot x 11)) := by
  go_enter Tryd.func47, Tryd.ntmps47
  go_wp2_with fail
  go_ret
  exact ⟨ret_of (congrArg (Value.int .u32) (rot_or' x 11 2048 2097152 rfl rfl hx)), rfl⟩
theorem rotl_13 (x : Nat) (w : World) (hx : x < 4294967296) : Calls Tryd.prog 52 #[.int .u32 (x : Int), .int .i64 (-13)] w (Wd w (rot x 13)) := by
  have hand : bits .and .u64 (IntKind.u64.wrap (-13)) 31 = 19 := by decide +kernel
  go_enter Tryd.func52, Tryd.ntmps52
  go_wp2_with fail
  go_ret
  exact ⟨ret_of (congrArg (Value.int .u32) (rot_or x 13 8192 524288 rfl rfl hx)), rfl⟩
theorem turned_13 (x : Nat) (w : World) (hx : x < 4294967296) : Calls Tryd.prog 50 #[.int .u32 (x : Int), .int .i64 13] w (Wd w (rot x 13)) := by
  go_enter Tryd.func50, Tryd.ntmps50
  go_wp2_with fail
  refine (rotl_13 x w hx).mono ?_
  rintro e w' ⟨rfl, rfl⟩
  go_wp2_with fail
  go_ret
  exact ⟨rfl, rfl⟩
theorem r_13 (x : Nat) (w : World) (hx : x < 4294967296) : Calls Tryd.prog 47 #[.int .u32 (x : Int), .int .u64 13] w (Wd w (rot x 13)) := by
  go_enter Tryd.func47, Tryd.ntmps47
  go_wp2_with fail
  go_ret
  exact ⟨ret_of (congrArg (Value.int .u32) (rot_or' x 13 8192 524288 rfl rfl hx)), rfl⟩
theorem rotl_17 (x : Nat) (w : World) (hx : x < 4294967296) : Calls Tryd.prog 52 #[.int .u32 (x : Int), .int .i64 (-17)] w (Wd w (rot x 17)) := by
  have hand : bits .and .u64 (IntKind.u64.wrap (-17)) 31 = 15 := by decide +kernel
  go_enter Tryd.func52, Tryd.ntmps52
  go_wp2_with fail
  go_ret
  exact ⟨ret_of (congrArg (Value.int .u32) (rot_or x 17 131072 32768 rfl rfl hx)), rfl⟩
theorem turned_17 (x : Nat) (w : World) (hx : x < 4294967296) : Calls Tryd.prog 50 #[.int .u32 (x : Int), .int .i64 17] w (Wd w (rot x 17)) := by
  go_enter Tryd.func50, Tryd.ntmps50
  go_wp2_with fail
  refine (rotl_17 x w hx).mono ?_
  rintro e w' ⟨rfl, rfl⟩
  go_wp2_with fail
  go_ret
  exact ⟨rfl, rfl⟩
theorem r_17 (x : Nat) (w : World) (hx : x < 4294967296) : Calls Tryd.prog 47 #[.int .u32 (x : Int), .int .u64 17] w (Wd w (rot x 17)) := by
  go_enter Tryd.func47, Tryd.ntmps47
  go_wp2_with fail
  go_ret
  exact ⟨ret_of (congrArg (Value.int .u32) (rot_or' x 17 131072 32768 rfl rfl hx)), rfl⟩
theorem rotl_18 (x : Nat) (w : World) (hx : x < 4294967296) : Calls Tryd.prog 52 #[.int .u32 (x : Int), .int .i64 (-18)] w (Wd w (rot x 18)) := by
  have hand : bits .and .u64 (IntKind.u64.wrap (-18)) 31 = 14 := by decide +kernel
  go_enter Tryd.func52, Tryd.ntmps52
  go_wp2_with fail
  go_ret
  exact ⟨ret_of (congrArg (Value.int .u32) (rot_or x 18 262144 16384 rfl rfl hx)), rfl⟩
theorem turned_18 (x : Nat) (w : World) (hx : x < 4294967296) : Calls Tryd.prog 50 #[.int .u32 (x : Int), .int .i64 18] w (Wd w (rot x 18)) := by
  go_enter Tryd.func50, Tryd.ntmps50
  go_wp2_with fail
  refine (rotl_18 x w hx).mono ?_
  rintro e w' ⟨rfl, rfl⟩
  go_wp2_with fail
  go_ret
  exact ⟨rfl, rfl⟩
theorem r_18 (x : Nat) (w : World) (hx : x < 4294967296) : Calls Tryd.prog 47 #[.int .u32 (x : Int), .int .u64 18] w (Wd w (rot x 18)) := by
  go_enter Tryd.func47, Tryd.ntmps47
  go_wp2_with fail
  go_ret
  exact ⟨ret_of (congrArg (Value.int .u32) (rot_or' x 18 262144 16384 rfl rfl hx)), rfl⟩
theorem rotl_19 (x : Nat) (w : World) (hx : x < 4294967296) : Calls Tryd.prog 52 #[.int .u32 (x : Int), .int .i64 (-19)] w (Wd w (rot x 19)) := by
  have hand : bits .and .u64 (IntKind.u64.wrap (-19)) 31 = 13 := by decide +kernel
  go_enter Tryd.func52, Tryd.ntmps52
  go_wp2_with fail
  go_ret
  exact ⟨ret_of (congrArg (Value.int .u32) (rot_or x 19 524288 8192 rfl rfl hx)), rfl⟩
theorem turned_19 (x : Nat) (w : World) (hx : x < 4294967296) : Calls Tryd.prog 50 #[.int .u32 (x : Int), .int .i64 19] w (Wd w (rot x 19)) := by
  go_enter Tryd.func50, Tryd.ntmps50
  go_wp2_with fail
  refine (rotl_19 x w hx).mono ?_
  rintro e w' ⟨rfl, rfl⟩
  go_wp2_with fail
  go_ret
  exact ⟨rfl, rfl⟩
theorem r_19 (x : Nat) (w : World) (hx : x < 4294967296) : Calls Tryd.prog 47 #[.int .u32 (x : Int), .int .u64 19] w (Wd w (rot x 19)) := by
  go_enter Tryd.func47, Tryd.ntmps47
  go_wp2_with fail
  go_ret
  exact ⟨ret_of (congrArg (Value.int .u32) (rot_or' x 19 524288 8192 rfl rfl hx)), rfl⟩
theorem rotl_22 (x : Nat) (w : World) (hx : x < 4294967296) : Calls Tryd.prog 52 #[.int .u32 (x : Int), .int .i64 (-22)] w (Wd w (rot x 22)) := by
  have hand : bits .and .u64 (IntKind.u64.wrap (-22)) 31 = 10 := by decide +kernel
  go_enter Tryd.func52, Tryd.ntmps52
  go_wp2_with fail
  go_ret
  exact ⟨ret_of (congrArg (Value.int .u32) (rot_or x 22 4194304 1024 rfl rfl hx)), rfl⟩
theorem turned_22 (x : Nat) (w : World) (hx : x < 4294967296) : Calls Tryd.prog 50 #[.int .u32 (x : Int), .int .i64 22] w (Wd w (rot x 22)) := by
  go_enter Tryd.func50, Tryd.ntmps50
  go_wp2_with fail
  refine (rotl_22 x w hx).mono ?_
  rintro e w' ⟨rfl, rfl⟩
  go_wp2_with fail
  go_ret
  exact ⟨rfl, rfl⟩
theorem r_22 (x : Nat) (w : World) (hx : x < 4294967296) : Calls Tryd.prog 47 #[.int .u32 (x : Int), .int .u64 22] w (Wd w (rot x 22)) := by
  go_enter Tryd.func47, Tryd.ntmps47
  go_wp2_with fail
  go_ret
  exact ⟨ret_of (congrArg (Value.int .u32) (rot_or' x 22 4194304 1024 rfl rfl hx)), rfl⟩
theorem rotl_25 (x : Nat) (w : World) (hx : x < 4294967296) : Calls Tryd.prog 52 #[.int .u32 (x : Int), .int .i64 (-25)] w (Wd w (rot x 25)) := by
  have hand : bits .and .u64 (IntKind.u64.wrap (-25)) 31 = 7 := by decide +kernel
  go_enter Tryd.func52, Tryd.ntmps52
  go_wp2_with fail
  go_ret
  exact ⟨ret_of (congrArg (Value.int .u32) (rot_or x 25 33554432 128 rfl rfl hx)), rfl⟩
theorem turned_25 (x : Nat) (w : World) (hx : x < 4294967296) : Calls Tryd.prog 50 #[.int .u32 (x : Int), .int .i64 25] w (Wd w (rot x 25)) := by
  go_enter Tryd.func50, Tryd.ntmps50
  go_wp2_with fail
  refine (rotl_25 x w hx).mono ?_
  rintro e w' ⟨rfl, rfl⟩
  go_wp2_with fail
  go_ret
  exact ⟨rfl, rfl⟩
theorem r_25 (x : Nat) (w : World) (hx : x < 4294967296) : Calls Tryd.prog 47 #[.int .u32 (x : Int), .int .u64 25] w (Wd w (rot x 25)) := by
  go_enter Tryd.func47, Tryd.ntmps47
  go_wp2_with fail
  go_ret
  exact ⟨ret_of (congrArg (Value.int .u32) (rot_or' x 25 33554432 128 rfl rfl hx)), rfl⟩
theorem div_3 (x : Nat) (w : World) (hx : x < 4294967296) : Calls Tryd.prog 48 #[.int .u32 (x : Int), .int .u64 3] w (Wd w (x / 8)) := by
  go_enter Tryd.func48, Tryd.ntmps48
  go_wp2_with fail
  go_ret
  exact ⟨ret_of (congrArg (Value.int .u32) (by rw [Int.natCast_ediv]; rfl)), rfl⟩
theorem div_10 (x : Nat) (w : World) (hx : x < 4294967296) : Calls Tryd.prog 48 #[.int .u32 (x : Int), .int .u64 10] w (Wd w (x / 1024)) := by
  go_enter Tryd.func48, Tryd.ntmps48
  go_wp2_with fail
  go_ret
  exact ⟨ret_of (congrArg (Value.int .u32) (by rw [Int.natCast_ediv]; rfl)), rfl⟩

theorem or_sum (a b i : Nat) (hb : b < 2 ^ i) : a * 2 ^ i ||| b = a * 2 ^ i + b := by
  rw [Nat.mul_comm, Nat.two_pow_add_eq_or_of_lt hb]
theorem wd4_or (a b c d : Nat) (ha : a < 256) (hb : b < 256) (hc : c < 256) (hd : d < 256) :
    bits .or .u32 (bits .or .u32 (bits .or .u32 ((a : Int) * 16777216) ((b : Int) * 65536)) ((c : Int) * 256)) (d : Int) = ((((a * 256 + b) * 256 + c) * 256 + d : Nat) : Int) := by
  have e1 : a * 16777216 ||| b * 65536 = (a * 256 + b) * 65536 := by
    rw [show a * 16777216 = a * 2 ^ 24 from rfl, or_sum a _ 24 (by omega)]; omega
  have e2 : (a * 256 + b) * 65536 ||| c * 256 = ((a * 256 + b) * 256 + c) * 256 := by
    rw [show (a * 256 + b) * 65536 = (a * 256 + b) * 2 ^ 16 from rfl, or_sum _ _ 16 (by omega)]; omega
  have e3 : ((a * 256 + b) * 256 + c) * 256 ||| d = ((a * 256 + b) * 256 + c) * 256 + d := or_sum _ _ 8 (by omega)
  rw [show (a : Int) * 16777216 = ((a * 16777216 : Nat) : Int) by rfl, show (b : Int) * 65536 = ((b * 65536 : Nat) : Int) by rfl, show (c : Int) * 256 = ((c * 256 : Nat) : Int) by rfl,
    u32_or_nat _ _ (by omega) (by omega), e1, u32_or_nat _ _ (by omega) (by omega), e2, u32_or_nat _ _ (by omega) (by omega), e3]
theorem getD_of {l : List Nat} {k b : Nat} (h : l[k]? = some b) : l.getD k 0 = b := by rw [List.getD_eq_getElem?_getD, h]; rfl
theorem word_any (A : Option Addr) (n c : Nat) (l : List Nat) (w : World) (hr : Reads w w.heap.size 1 A n (bs l)) (hl : ∀ b ∈ l, b < 256) (hn : 4 ≤ n) :
    Calls Tryd.prog 51 #[.slice A n c] w fun e w' => e = .returned (.int .u32 (wd4 l 0 : Int)) ∧ Drawn w w' := by
  obtain ⟨b, off, rfl, _, hc⟩ := hr.plain (by omega)
  have hlen : l.length = n := by have := hr.1; rw [bs_length] at this; omega
  obtain ⟨x0, h0⟩ : ∃ x, l[0]? = some x := ⟨_, List.getElem?_eq_getElem (by omega)⟩
  obtain ⟨x1, h1⟩ : ∃ x, l[1]? = some x := ⟨_, List.getElem?_eq_getElem (by omega)⟩
  obtain ⟨x2, h2⟩ : ∃ x, l[2]? = some x := ⟨_, List.getElem?_eq_getElem (by omega)⟩
  obtain ⟨x3, h3⟩ : ∃ x, l[3]? = some x := ⟨_, List.getElem?_eq_getElem (by omega)⟩
  have l0 := hl _ (List.mem_of_getElem? h0)
  have l1 := hl _ (List.mem_of_getElem? h1)
  have l2 := hl _ (List.mem_of_getElem? h2)
  have l3 := hl _ (List.mem_of_getElem? h3)
  have c0 := hc 0 (.int .u8 (x0 : Int)) (by unfold bs; rw [List.getElem?_map, h0]; rfl)
  have c1 := hc 1 (.int .u8 (x1 : Int)) (by unfold bs; rw [List.getElem?_map, h1]; rfl)
  have c2 := hc 2 (.int .u8 (x2 : Int)) (by unfold bs; rw [List.getElem?_map, h2]; rfl)
  have c3 := hc 3 (.int .u8 (x3 : Int)) (by unfold bs; rw [List.getElem?_map, h3]; rfl)
  rw [Nat.add_zero] at c0
  have E := Lib.hid (show wd4 l 0 = ((x0 * 256 + x1) * 256 + x2) * 256 + x3 by
    unfold wd4
    rw [getD_of h0, getD_of h1, getD_of h2, getD_of h3])
  have hor := Lib.hid (wd4_or x0 x1 x2 x3 l0 l1 l2 l3)
  clear h0 h1 h2 h3 hc hl hlen hr
  have g0 : (0 : Int) < (n : Int) := by omega
  have g1 : (1 : Int) < (n : Int) := by omega
  have g2 : (2 : Int) < (n : Int) := by omega
  have g3 : (3 : Int) < (n : Int) := by omega
  go_enter Tryd.func51, Tryd.ntmps51
  go_wp2_with fail
  go_quiet (fail)
  go_wp2_with fail
  go_ret
  refine ⟨ret_of (congrArg (Value.int .u32) ?_), _, rfl⟩
  rw [E.out]
  exact hor.out
end Go.Proofs.YtfpbijnlmlaloaaDoor
