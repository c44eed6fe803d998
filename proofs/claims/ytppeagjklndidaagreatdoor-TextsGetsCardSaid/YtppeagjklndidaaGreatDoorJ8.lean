/- Texts joined: TxRow ZigP. -/
import Derived.Test.YtppeagjklndidaaGreatDoorJ2
import Derived.Sort.EncStr
import Derived.Test.YtppeagjklndidaaGreatDoorWords
/- Texts in memory, over this program: lists of them as values; what a function answers that hands out new ones. No condition. -/
namespace Go.Proofs.YtppeagjklndidaaGreatDoor
open Go.RowKit
set_option linter.unusedVariables false
set_option linter.unusedSimpArgs false
set_option maxRecDepth 100000

/-- Texts as values. -/
def ts (l : List (List UInt8)) : List Value := l.map Go.Proofs.encStr
theorem ts_length (l : List (List UInt8)) : (ts l).length = l.length := by simp [ts]
theorem ts_nil : ts [] = [] := rfl
theorem ts_append (l m : List (List UInt8)) : ts (l ++ m) = ts l ++ ts m := by simp [ts]
theorem ts_take (l : List (List UInt8)) (k : Nat) : (ts l).take k = ts (l.take k) := by simp [ts]
theorem ts_drop (l : List (List UInt8)) (k : Nat) : (ts l).drop k = ts (l.drop k) := by simp [ts]
theorem ts_one (l : List (List UInt8)) : ∀ u ∈ ts l, u.oneCell' = true := by
  intro u hu
  obtain ⟨b, _, rfl⟩ := List.mem_map.1 hu
  rfl
theorem ts_at {l : List (List UInt8)} {k : Nat} {u : Value} (h : (ts l)[k]? = some u) : ∃ b, l[k]? = some b ∧ u = .string ⟨b.toArray⟩ := by
  unfold ts at h
  rw [List.getElem?_map] at h
  cases hb : l[k]? with
  | none => rw [hb] at h; cases h
  | some b => rw [hb] at h; injection h with h; exact ⟨b, rfl, h.symm⟩
theorem ts_get {l : List (List UInt8)} {k : Nat} {z : List UInt8} (h : l[k]? = some z) : (ts l)[k]? = some (.string ⟨z.toArray⟩) := by unfold ts; rw [List.getElem?_map, h]; rfl
theorem ts_snoc (xs : List Value) (l : List (List UInt8)) (b : List UInt8) : xs ++ ts l ++ [Value.string ⟨b.toArray⟩] = xs ++ ts (l ++ [b]) := by simp [ts]
theorem ts_same {x y : List UInt8} : ((⟨x.toArray⟩ : ByteArray) = ⟨y.toArray⟩) ↔ x = y := by
  constructor
  · intro h; have h2 := congrArg (fun b : ByteArray => b.data.toList) h; simpa using h2
  · intro h; rw [h]
theorem size_enc (x : List UInt8) : (⟨x.toArray⟩ : ByteArray).size = x.length := by simp [ByteArray.size]
theorem info_str : (Tryz.prog.info? 9).map (fun i => (i.zero, i.size, i.bytes)) = some (some (.string ⟨#[]⟩), 1, 16) := by kernel_rfl
theorem run_make_str (n c : Nat) (hnc : n ≤ c) (hc : c ≤ 8796093022208) (w : World) :
    (Instr.makeSlice 32 (.int .i64 (n : Int)) (.int .i64 (c : Int))).run Tryz.prog w = .ok (.slice (some ⟨w.heap.size, 0, none⟩) n c) (w.alloc (.cells (madeCells #[.string ⟨#[]⟩] c) 9)) := by
  obtain ⟨i, hi, hz0, hz1, hz2⟩ := info_parts info_str
  have hr := run_make (P := Tryz.prog) w 32 9 i _ Tryz.underlying32 hi hz0 .i64 .i64 n c (by omega) (by omega) (by rw [hz2]; omega) (by omega)
  rw [hz1] at hr
  simpa [Value.cells] using hr
/-- What a function answers that hands out new texts. -/
def NewT (w : World) (l : List (List UInt8)) (e : Ending) (w' : World) : Prop := ∃ v, e = .returned v ∧ w'.ownsRow w.heap.size 9 1 v l.length (ts l) ∧ Below w.heap.size w w'
theorem NewT.opened {w w' : World} {l : List (List UInt8)} {e : Ending} (h : NewT w l e w') : ∃ A c, e = .returned (.slice A l.length c) ∧ l.length ≤ c ∧ c ≤ maxLen ∧ Reads w' w'.heap.size 1 A l.length (ts l) ∧ Below w.heap.size w w' := by
  obtain ⟨v, rfl, hown, hb⟩ := h
  obtain ⟨A, c, rfl, hc, hm, hr⟩ := own_slice hown
  exact ⟨A, c, rfl, hc, hm, hr, hb⟩
/-- New texts, and the number of an error. -/
def NewTE (w : World) (l : List (List UInt8)) (x : Int) (e : Ending) (w' : World) : Prop :=
  ∃ v, e = .returned (.tuple #[v, .int .i64 x]) ∧ w'.ownsRow w.heap.size 9 1 v l.length (ts l) ∧ Below w.heap.size w w'
theorem NewTE.opened {w w' : World} {l : List (List UInt8)} {x : Int} {e : Ending} (h : NewTE w l x e w') : ∃ A c, e = .returned (.tuple #[.slice A l.length c, .int .i64 x]) ∧ l.length ≤ c ∧ c ≤ maxLen ∧ Reads w' w'.heap.size 1 A l.length (ts l) ∧ Below w.heap.size w w' := by
  obtain ⟨v, rfl, hown, hb⟩ := h
  obtain ⟨A, c, rfl, hc, hm, hr⟩ := own_slice hown
  exact ⟨A, c, rfl, hc, hm, hr, hb⟩
end Go.Proofs.YtppeagjklndidaaGreatDoor

/- Plain facts on Zig and Zag: numbers with a sign as numbers without. No program. -/
namespace Go.Proofs.YtppeagjklndidaaGreatDoor
open Go.RowKit
set_option linter.unusedVariables false
set_option linter.unusedSimpArgs false
set_option maxRecDepth 100000

def zigI (n : Int) : Int := if 0 ≤ n then 2 * n else -2 * n - 1
def zagI (v : Int) : Int := if v % 2 = 0 then v / 2 else -(v / 2) - 1
theorem zag_zig (n : Int) : zagI (zigI n) = n := by unfold zagI zigI; split <;> split <;> omega
theorem zig_zag (v : Int) (h : 0 ≤ v) : zigI (zagI v) = v := by unfold zagI zigI; split <;> split <;> omega
theorem zigI_range (n : Int) (h1 : -9223372036854775808 ≤ n) (h2 : n ≤ 9223372036854775807) : 0 ≤ zigI n ∧ zigI n < 18446744073709551616 := by unfold zigI; split <;> omega
theorem zagI_range (v : Int) (h1 : 0 ≤ v) (h2 : v < 18446744073709551616) : -9223372036854775808 ≤ zagI v ∧ zagI v ≤ 9223372036854775807 := by unfold zagI; split <;> omega

theorem xor_ones (x : Nat) (h : x < 18446744073709551616) : x ^^^ 18446744073709551615 = 18446744073709551615 - x := by
  have h1 : (BitVec.ofNat 64 x ^^^ BitVec.allOnes 64).toNat = (~~~ (BitVec.ofNat 64 x)).toNat := by rw [BitVec.xor_allOnes]
  rw [BitVec.toNat_xor, BitVec.toNat_not, BitVec.toNat_ofNat, BitVec.toNat_allOnes] at h1
  have e : x % 2 ^ 64 = x := Nat.mod_eq_of_lt (by omega)
  rw [e] at h1
  exact h1
theorem zig_low (n : Int) (h0 : 0 ≤ n) (h2 : n ≤ 9223372036854775807) : bits .xor .u64 (n * 2) (n / 9223372036854775808) = zigI n := by
  obtain ⟨m, rfl⟩ := Int.eq_ofNat_of_zero_le h0
  rw [show ((m : Int) / 9223372036854775808) = ((0 : Nat) : Int) by omega, show ((m : Int) * 2) = ((m * 2 : Nat) : Int) by omega, u64_xor_nat _ _ (by omega) (by omega), Nat.xor_zero]
  unfold zigI
  rw [if_pos h0]; omega
theorem zig_high (n : Int) (h0 : ¬ 0 ≤ n) (h1 : -9223372036854775808 ≤ n) :
    bits .xor .u64 (IntKind.u64.wrap (IntKind.u64.wrap n * 2)) (IntKind.u64.wrap (n / 9223372036854775808)) = zigI n := by
  obtain ⟨m, hm⟩ := Int.eq_ofNat_of_zero_le (show 0 ≤ 2 * n + 18446744073709551616 by omega)
  rw [show IntKind.u64.wrap (n / 9223372036854775808) = ((18446744073709551615 : Nat) : Int) by rw [IntKind.wrap_u64]; omega, show IntKind.u64.wrap (IntKind.u64.wrap n * 2) = (m : Int) by rw [IntKind.wrap_u64, IntKind.wrap_u64]; omega,
    u64_xor_nat _ _ (by omega) (by omega), xor_ones _ (by omega)]
  unfold zigI
  rw [if_neg h0]; omega
theorem and_one (v : Nat) (hv : v < 18446744073709551616) : bits .and .u64 (v : Int) 1 = ((v % 2 : Nat) : Int) := by
  rw [show (1 : Int) = ((1 : Nat) : Int) from rfl, u64_and_nat _ _ hv (by omega), nat_mask1]
theorem zag_is (v : Nat) (hv : v < 18446744073709551616) : bits .xor .i64 ((v : Int) / 2) (wrap64 (-wrap64 (bits .and .u64 (v : Int) 1))) = zagI v := by
  rw [and_one v hv]
  have hx : (BitVec.ofInt 64 ((v : Int) / 2)).toNat = v / 2 := by
    rw [show ((v : Int) / 2) = ((v / 2 : Nat) : Int) by omega, BitVec.ofInt_natCast, BitVec.toNat_ofNat]; exact Nat.mod_eq_of_lt (by omega)
  show IntKind.i64.wrap ((BitVec.ofInt 64 ((v : Int) / 2) ^^^ BitVec.ofInt 64 (wrap64 (-wrap64 ((v % 2 : Nat) : Int)))).toNat : Int) = _
  unfold zagI
  by_cases h : v % 2 = 0
  · rw [h, show wrap64 (-wrap64 ((0 : Nat) : Int)) = 0 by decide +kernel, if_pos (by omega), show BitVec.ofInt 64 0 = 0#64 from rfl, BitVec.xor_zero, hx, IntKind.wrap_i64]
    omega
  · have h1 : v % 2 = 1 := by omega
    rw [h1, show wrap64 (-wrap64 ((1 : Nat) : Int)) = -1 by decide +kernel, if_neg (by omega), show BitVec.ofInt 64 (-1) = BitVec.allOnes 64 by decide, BitVec.xor_allOnes, BitVec.toNat_not, hx, IntKind.wrap_i64]
    omega

end Go.Proofs.YtppeagjklndidaaGreatDoor
