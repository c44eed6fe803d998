/- Texts joined: Err Handle ZigP. -/
import Derived.Test.YtppeagjklndidaaGreatDoorRdE
import Derived.Test.YtppeagjklndidaaGreatDoorErrChain
import Derived.Test.YtppeagjklndidaaGreatDoorRows
import Derived.ChangeSame
import Derived.ChangeVars
import Derived.JoinedOf
import Derived.RowKit
import Derived.RowKitTokens
import Derived.LaidLaws
import Derived.LaidHandle
import Derived.Stop.Joined
import Derived.Test.YtppeagjklndidaaGreatDoorWords
/- Contract of the Reader's Err: the error's number and its place, found by errors.As. -/
namespace Go.Proofs.YtppeagjklndidaaGreatDoor
open Go.RowKit
set_option linter.unusedVariables false
set_option linter.unusedSimpArgs false
set_option maxRecDepth 100000

/-- The variable that errors.As asks for the type error. -/
def Met (w : World) : Prop := w.cell? ⟨0, 0, none⟩ = some (.iface 157 (.agg #[.pointer (some ⟨1, 93, none⟩)]))
theorem Met.next {w w' : World} (h : Met w) (hb : Below w.heap.size w w') : Met w' := (hb.cell (World.block_lt_of_cell? _ _ h)).trans h
/-- An error's number and place, as two results. -/
def Tells (k : Int) (on : Int) (e : Ending) : Prop := e = .returned (.tuple #[.int .i64 k, .int .i64 on])

theorem err_nil (w : World) : Calls Tryz.prog 51 #[.pointer none] w fun e w' => Tells 1 0 e ∧ Below w.heap.size w w' := by
  go_enter Tryz.func51, Tryz.ntmps51
  go_wp2_with fail
  refine bodyPost_ret (v := .tuple #[.int .i64 1, .int .i64 0]) (by simp [results, Tryz.results51, go_sem]) rfl ⟨rfl, ?_⟩
  exact (Below.refl _ _).alloc (Nat.le_refl _) _
theorem err_none {w : World} {g : Nat} {l : List Nat} {at_ : Nat} (h : RdS w g l at_ none) : Calls Tryz.prog 51 #[.pointer (some ⟨g, 0, none⟩)] w fun e w' => Tells 0 0 e ∧ Below w.heap.size w w' := by
  obtain ⟨A, n, c, err, hR, rfl⟩ := h
  have hc := ((hR.blk.alloc (.cells #[.int .i64 0] 25)).alloc (.cells #[.pointer none] 111)).cell 2
  simp only [List.getElem?_toArray, List.getElem?_cons_succ, List.getElem?_cons_zero] at hc
  go_enter Tryz.func51, Tryz.ntmps51
  go_wp2_with (go_at_call 76; refine (as_nil _ _).mono ?_; rintro e w1 ⟨rfl, rfl⟩)
  refine bodyPost_ret (v := .tuple #[.int .i64 0, .int .i64 0]) (by simp [results, Tryz.results51, go_sem]) rfl ⟨rfl, ?_⟩
  exact ((Below.refl _ _).alloc (Nat.le_refl _) _).alloc (by simp) _
set_option maxHeartbeats 1000000 in
theorem err_some {w : World} {g : Nat} {l : List Nat} {at_ : Nat} (k : Int) (on : Nat) (hm : Met w) (h : RdS w g l at_ (some (k, on))) :
    Calls Tryz.prog 51 #[.pointer (some ⟨g, 0, none⟩)] w fun e w' => Tells k (on : Int) e ∧ Below w.heap.size w w' := by
  obtain ⟨A, n, c, err, hR, f, rfl, hf⟩ := h
  have hb0 : Below w.heap.size w ((w.alloc (.cells #[.int .i64 0] 25)).alloc (.cells #[.pointer none] 111)) := ((Below.refl _ _).alloc (Nat.le_refl _) _).alloc (by simp) _
  have hc := (hR.blk.below hb0 hR.blk.lt).cell 2
  simp only [List.getElem?_toArray, List.getElem?_cons_succ, List.getElem?_cons_zero] at hc
  have hf0 := hf.below hb0 hf.lt
  have hm0 := hm.next hb0
  have hfl := hf.lt
  have hml : 0 < w.heap.size := World.block_lt_of_cell? _ _ hm
  have he0 : Blk ((w.alloc (.cells #[.int .i64 0] 25)).alloc (.cells #[.pointer none] 111)) w.heap.size 25 #[.int .i64 0] := (Blk.new w _ _).alloc _
  have hp0 : Blk ((w.alloc (.cells #[.int .i64 0] 25)).alloc (.cells #[.pointer none] 111)) (w.heap.size + 1) 111 #[.pointer none] := by
    have := Blk.new (w.alloc (.cells #[.int .i64 0] 25)) 111 #[.pointer none]
    simpa using this
  go_enter Tryz.func51, Tryz.ntmps51
  go_wp2_with fail
  refine (as_hit ⟨f, 0, none⟩ ⟨w.heap.size + 1, 0, none⟩ (.pointer none) _ hm0 (by rw [hp0.cell]; rfl) (hp0.frozen 0)).mono ?_
  rintro e w1 ⟨rfl, hg1, hc1, hz1⟩
  have hf1 := hf0.grown hg1 (by first | (simp; done) | (simp; omega))
  have he1 := he0.grown hg1 (by first | (simp; done) | (simp; omega))
  have hm1 : Met w1 := hg1.cell hm0 (by first | (simp; done) | (simp; omega))
  have hb1 : Below w.heap.size w w1 := hb0.grown hg1 (by simp; omega) (fun k hk => by simp at hk; omega)
  go_wp2_with fail
  refine (as_chain k ⟨w.heap.size, 0, none⟩ f (.int .i64 0) w1 hm1 (by rw [he1.cell]; rfl) (he1.frozen 0) (by rw [hf1.cell]; rfl)).mono ?_
  rintro e w2 ⟨rfl, hg2, hc2, hz2⟩
  have hp2 : w2.cell? ⟨w.heap.size + 1, 0, none⟩ = some (.pointer (some ⟨f, 0, none⟩)) := hg2.cell hc1 (by first | (simp; done) | (simp; omega))
  have hf2 : w2.cell? ⟨f, 0, none⟩ = some (.int .i64 (on : Int)) := by rw [(hf1.grown hg2 (by first | (simp; done) | (simp; omega))).cell]; rfl
  have hb2 : Below w.heap.size w w2 := hb1.grown hg2 hb1.size (fun k hk => by simp at hk; omega)
  clear hf0 hf1 hm0 hm1 he0 he1 hp0 hc hb0
  go_wp2_with fail
  go_region
  all_goals go_wp2_with fail
  all_goals
    refine bodyPost_ret (v := .tuple #[.int .i64 k, .int .i64 (on : Int)]) (by simp [results, Tryz.results51, go_sem, hc2]) rfl ⟨rfl, ?_⟩
  exact (hb2.setCell (Nat.le_refl _) _).drew

def errS (x : Option (Int × Nat)) : Int × Nat := x.getD (0, 0)
theorem err_is {w : World} {g : Nat} {l : List Nat} {at_ : Nat} {x : Option (Int × Nat)} (hm : Met w) (h : RdS w g l at_ x) :
    Calls Tryz.prog 51 #[.pointer (some ⟨g, 0, none⟩)] w fun e w' => Tells (errS x).1 ((errS x).2 : Int) e ∧ Below w.heap.size w w' := by
  cases x with
  | none => exact err_none h
  | some x => exact err_some x.1 x.2 hm h
end Go.Proofs.YtppeagjklndidaaGreatDoor

/- The listed variable errors.errorType: from the row's condition to the variable's cell; a world that meets it. -/
namespace Go.Proofs.YtppeagjklndidaaGreatDoor
open Go.ChangeShapes Go.WideShapes Go.RowKit
set_option maxRecDepth 100000

def laidErr : List (String × DataW Unit) := [("errors.errorType", Rows.laid_errors_errorType)]
theorem et_named : Tryz.prog.globalNamed "errors.errorType" = some 0 := by kernel_rfl
theorem rt_find : (Tryz.prog.cutTypes.find? (·.1 == "internal/reflectlite.rtype")).map (·.2) = some 157 := by kernel_rfl
theorem oneRow : ((List.range 210).filter fun t => Tryz.prog.rowNamed t [101, 114, 114, 111, 114]) = [93] := by kernel_rfl
theorem types_size : Tryz.prog.types.size = 210 := by kernel_rfl
theorem met_of_laid {W : World} (h : laidMetH Tryz.prog laidErr W) : Met W := by
  have h' : laidMet Tryz.prog [] W ∧ handlesMet Tryz.prog laidErr W := h
  obtain ⟨name, u, ty, e1, e2, e3, e4, e5⟩ := h'.2 _ (List.mem_singleton.2 rfl)
  have en : name = [101, 114, 114, 111, 114] := (Option.some.inj e1).symm
  subst en
  obtain rfl := Option.some.inj (rt_find.symm.trans e2)
  have hm : ty ∈ (List.range 210).filter fun t => Tryz.prog.rowNamed t [101, 114, 114, 111, 114] := List.mem_filter.2 ⟨List.mem_range.2 (by rw [← types_size]; exact e3), e4⟩
  rw [oneRow] at hm
  obtain rfl := List.mem_singleton.1 hm
  have hh : typeHandle Tryz.prog 93 = .pointer (some ⟨1, 93, none⟩) := by kernel_rfl
  rw [hh] at e5
  unfold Met
  simpa using World.var?_cell et_named e5 0

noncomputable def laidWorld (os : Os) : World :=
  let w0 := World.holding Tryz.prog os ⟨#[], #[], []⟩
  { w0 with heap := w0.heap.modify 0 fun
      | .cells _ t frozen => .cells #[.iface 157 (.agg #[.pointer (some ⟨1, 93, none⟩)])] t frozen
      | o => o }
theorem laidWorld_met (os : Os) (args : Array Value) : laidMetH Tryz.prog laidErr ((laidWorld os).forCall (fun _ _ => 0) ⟨#[], args, []⟩).memory :=
  laidMetH_of_parts (laidMet_nil _ _) (by kernel_rfl)
end Go.Proofs.YtppeagjklndidaaGreatDoor

/- Plain facts on Zig and Zag: numbers with a sign as numbers without. No program. -/
namespace Go.Proofs.YtppeagjklndidaaGreatDoor
open Go.RowKit
set_option linter.unusedVariables false
set_option linter.unusedSimpArgs false
set_option maxRecDepth 100000

def zigI (n : Int) : Int := if 0 ≤ n then 2 * n else -2 * n - 1
def zagI (v : Int) : Int := if v % 2 = 0 then v / 2 else -(v / 2) - 1
theorem zag_zig (n : Int) : zagI (zigI n) = n := by unfold zagI zigI; split <;> split <;> omega
theorem zig_zag (v : Int) (h : 0 ≤ v) : zigI (zagI v) = v := by unfold zagI zigI; split <;> split <;> omega
theorem zigI_range (n : Int) (h1 : -9223372036854775808 ≤ n) (h2 : n ≤ 9223372036854775807) : 0 ≤ zigI n ∧ zigI n < 18446744073709551616 := by unfold zigI; split <;> omega
theorem zagI_range (v : Int) (h1 : 0 ≤ v) (h2 : v < 18446744073709551616) : -9223372036854775808 ≤ zagI v ∧ zagI v ≤ 9223372036854775807 := by unfold zagI; split <;> omega

theorem xor_ones (x : Nat) (h : x < 18446744073709551616) : x ^^^ 18446744073709551615 = 18446744073709551615 - x := by
  have h1 : (BitVec.ofNat 64 x ^^^ BitVec.allOnes 64).toNat = (~~~ (BitVec.ofNat 64 x)).toNat := by rw [BitVec.xor_allOnes]
  rw [BitVec.toNat_xor, BitVec.toNat_not, BitVec.toNat_ofNat, BitVec.toNat_allOnes] at h1
  have e : x % 2 ^ 64 = x := Nat.mod_eq_of_lt (by omega)
  rw [e] at h1
  exact h1
theorem zig_low (n : Int) (h0 : 0 ≤ n) (h2 : n ≤ 9223372036854775807) : bits .xor .u64 (n * 2) (n / 9223372036854775808) = zigI n := by
  obtain ⟨m, rfl⟩ := Int.eq_ofNat_of_zero_le h0
  rw [show ((m : Int) / 9223372036854775808) = ((0 : Nat) : Int) by omega, show ((m : Int) * 2) = ((m * 2 : Nat) : Int) by omega, u64_xor_nat _ _ (by omega) (by omega), Nat.xor_zero]
  unfold zigI
  rw [if_pos h0]; omega
theorem zig_high (n : Int) (h0 : ¬ 0 ≤ n) (h1 : -9223372036854775808 ≤ n) :
    bits .xor .u64 (IntKind.u64.wrap (IntKind.u64.wrap n * 2)) (IntKind.u64.wrap (n / 9223372036854775808)) = zigI n := by
  obtain ⟨m, hm⟩ := Int.eq_ofNat_of_zero_le (show 0 ≤ 2 * n + 18446744073709551616 by omega)
  rw [show IntKind.u64.wrap (n / 9223372036854775808) = ((18446744073709551615 : Nat) : Int) by rw [IntKind.wrap_u64]; omega, show IntKind.u64.wrap (IntKind.u64.wrap n * 2) = (m : Int) by rw [IntKind.wrap_u64, IntKind.wrap_u64]; omega,
    u64_xor_nat _ _ (by omega) (by omega), xor_ones _ (by omega)]
  unfold zigI
  rw [if_neg h0]; omega
theorem and_one (v : Nat) (hv : v < 18446744073709551616) : bits .and .u64 (v : Int) 1 = ((v % 2 : Nat) : Int) := by
  rw [show (1 : Int) = ((1 : Nat) : Int) from rfl, u64_and_nat _ _ hv (by omega), nat_mask1]
theorem zag_is (v : Nat) (hv : v < 18446744073709551616) : bits .xor .i64 ((v : Int) / 2) (wrap64 (-wrap64 (bits .and .u64 (v : Int) 1))) = zagI v := by
  rw [and_one v hv]
  have hx : (BitVec.ofInt 64 ((v : Int) / 2)).toNat = v / 2 := by
    rw [show ((v : Int) / 2) = ((v / 2 : Nat) : Int) by omega, BitVec.ofInt_natCast, BitVec.toNat_ofNat]; exact Nat.mod_eq_of_lt (by omega)
  show IntKind.i64.wrap ((BitVec.ofInt 64 ((v : Int) / 2) ^^^ BitVec.ofInt 64 (wrap64 (-wrap64 ((v % 2 : Nat) : Int)))).toNat : Int) = _
  unfold zagI
  by_cases h : v % 2 = 0
  · rw [h, show wrap64 (-wrap64 ((0 : Nat) : Int)) = 0 by decide +kernel, if_pos (by omega), show BitVec.ofInt 64 0 = 0#64 from rfl, BitVec.xor_zero, hx, IntKind.wrap_i64]
    omega
  · have h1 : v % 2 = 1 := by omega
    rw [h1, show wrap64 (-wrap64 ((1 : Nat) : Int)) = -1 by decide +kernel, if_neg (by omega), show BitVec.ofInt 64 (-1) = BitVec.allOnes 64 by decide, BitVec.xor_allOnes, BitVec.toNat_not, hx, IntKind.wrap_i64]
    omega

end Go.Proofs.YtppeagjklndidaaGreatDoor
