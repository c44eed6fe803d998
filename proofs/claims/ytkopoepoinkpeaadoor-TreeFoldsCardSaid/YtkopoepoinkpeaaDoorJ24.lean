/- Texts joined: TrSplit TrHalf TrQuiet. -/
import Derived.Test.YtkopoepoinkpeaaDoorJ23
import Derived.Test.YtkopoepoinkpeaaDoorTrPlain
import Derived.Deep.RegionLaw
import Derived.Deep.RegionWith
import Derived.Deep.DeepCutAuto
import Derived.Deep.CutBlock
import Derived.Test.YtkopoepoinkpeaaDoorTrDig
import Derived.BigQuiet
import Derived.Lib.QuietBelow
import Derived.Deep.MidRow
import Derived.Laws.StructEq
import Derived.Deep.RegionHeld3
import Derived.Test.YtkopoepoinkpeaaDoorWords
/- Contracts of math/bits.Len and of package tree's Split. No condition. -/
namespace Go.Proofs.YtkopoepoinkpeaaDoor
open Go.RowKit
set_option linter.unusedVariables false
set_option linter.unusedSimpArgs false
set_option maxRecDepth 100000

theorem len_any (x : Nat) (w : World) (h : x < 18446744073709551616) :
    Calls Tryd.prog 33 #[.int .u64 (x : Int)] w fun e w' => e = .returned (.int .i64 (blen x : Int)) ∧ w = w' := by
  have HC := Lib.hid (len64_any x w h)
  go_enter Tryd.func33, Tryd.ntmps33
  go_wp2_with fail
  refine HC.out.mono ?_
  rintro _ _ ⟨rfl, rfl⟩
  go_wp2_with fail
  go_ret
  exact ⟨rfl, rfl⟩
theorem split_any (n : Int) (w : World) (h0 : -9223372036854775808 ≤ n) (h1 : n ≤ 9223372036854775807) :
    Calls Tryd.prog 14 #[.int .i64 n] w fun e w' => e = .returned (.int .i64 (spl n.toNat : Int)) ∧ w = w' := by
  by_cases h2 : n < 2
  · rw [spl_small (by omega)]
    go_enter Tryd.func14, Tryd.ntmps14
    go_wp2_with fail
    go_ret
    exact ⟨rfl, rfl⟩
  · obtain ⟨m, rfl⟩ : ∃ m : Nat, n = (m : Int) + 1 := ⟨(n - 1).toNat, by omega⟩
    have HC := Lib.hid (len_any m w (by omega))
    have hb1 : m < 2 ^ blen m := (blen_le m (blen m)).1 (Nat.le_refl _)
    have hb2 : 0 < blen m := by
      rcases Nat.eq_zero_or_pos (blen m) with h | h
      · rw [h] at hb1; simp at hb1; omega
      · exact h
    have hb3 : 2 ^ (blen m - 1) ≤ m := by
      rcases Nat.lt_or_ge m (2 ^ (blen m - 1)) with h | h
      · have := (blen_le m (blen m - 1)).2 h; omega
      · exact h
    obtain ⟨e, he⟩ : ∃ e, blen m = e + 1 := ⟨blen m - 1, by omega⟩
    have hs : spl (((m : Int) + 1).toNat) = 2 ^ e := by
      rw [he] at hb1 hb3
      rw [Nat.pow_succ] at hb1
      simp only [Nat.add_sub_cancel] at hb3
      exact spl_is (by omega) (by omega)
    have he62 : e < 63 := by
      have : 2 ^ e < 2 ^ 63 := by rw [he] at hb3; simp only [Nat.add_sub_cancel] at hb3; omega
      exact (Nat.pow_lt_pow_iff_right (a := 2) (by omega)).1 this
    rw [hs]
    rw [he] at HC
    have hi1 : (m : Int) + 1 - 1 = (m : Int) := by omega
    have hi2 : IntKind.i64.wrap ((m : Int) + 1 - 1) = (m : Int) := by rw [hi1]; exact IntWalk.i64_in _ (by omega)
    clear he hs hb1 hb2 hb3
    go_enter Tryd.func14, Tryd.ntmps14
    go_wp2_with fail
    refine HC.out.mono ?_
    rintro _ _ ⟨rfl, rfl⟩
    have hs63 : (2 : Int) ^ e ≤ 4611686018427387904 := by
      have h : (2 : Nat) ^ e ≤ 2 ^ 62 := Nat.pow_le_pow_right (by omega) (by omega)
      have h3 : ((2 ^ e : Nat) : Int) ≤ ((2 ^ 62 : Nat) : Int) := Int.ofNat_le.2 h
      simpa using h3
    have hp0 : (0 : Int) < (2 : Int) ^ e := by
      have h3 : (0 : Int) < ((2 ^ e : Nat) : Int) := Int.ofNat_lt.2 (Nat.two_pow_pos e)
      simpa using h3
    have hw2 : IntKind.i64.wrap ((2 : Int) ^ e) = (2 : Int) ^ e := IntWalk.i64_in _ (by omega)
    go_wp2_with fail
    go_ret
    exact ⟨ret_of (congrArg (Value.int IntKind.i64) (by push_cast; rfl)), rfl⟩
end Go.Proofs.YtkopoepoinkpeaaDoor

/- Contract of package tree's halves. No condition. -/
namespace Go.Proofs.YtkopoepoinkpeaaDoor
open Go.RowKit
set_option linter.unusedVariables false
set_option linter.unusedSimpArgs false
set_option maxRecDepth 100000

set_option maxHeartbeats 1000000 in
theorem halves_any (b o n c : Nat) (w : World) (h2 : 2 ≤ n) (hc : n ≤ c) (hm : n ≤ 1000000) :
    Calls Tryd.prog 29 #[.slice (some ⟨b, o, none⟩) n c] w fun e w' => e = .returned (.tuple #[.slice (some ⟨b, o, none⟩) (spl n) (spl n), .slice (some ⟨b, o + spl n * 32, none⟩) (n - spl n) (n - spl n)]) ∧ Drawn w w' := by
  have hsz := Lib.hid (zero_of_info info_hash).2
  have HS := Lib.hid (split_any (n : Int) w (by omega) (by omega))
  rw [Int.toNat_natCast] at HS
  have h3 := spl_lt h2
  have h4 := spl_pos h2
  obtain ⟨k, hk⟩ : ∃ k, spl n = k := ⟨_, rfl⟩
  rw [hk] at h3 h4 HS ⊢
  have hk0 : ¬ (n - k = 0) := by omega
  have hk1 : (k : Int) ≤ (n : Int) := by omega
  have hk2 : (n : Int) ≤ (c : Int) := by omega
  have hk3 : (0 : Int) ≤ (k : Int) := by omega
  have hk4 : (k : Int) ≤ (c : Int) := by omega
  have hk5 : ((n : Int) - (k : Int)).toNat = n - k := by omega
  clear hk
  go_enter Tryd.func29, Tryd.ntmps29
  go_wp2_with fail
  refine HS.out.mono ?_
  rintro _ _ ⟨rfl, rfl⟩
  go_wp2_with fail
  go_region
  go_wp2_with fail
  trace_state
  go_ret2
  exact ⟨rfl, Drawn.one _ _⟩
end Go.Proofs.YtkopoepoinkpeaaDoor

/- Whole arrays by value in a region that draws its order and only reads: a load, a comparison. No program. -/
namespace Go.Proofs.YtkopoepoinkpeaaDoor
open Go.RowKit
set_option linter.unusedVariables false
set_option linter.unusedSimpArgs false

theorem quiet_load_mid {P : Program} {C : World → Prop} {o : Oper} {a : Act} {K : Act → Prop} (ty : TypeId) (x : Operand) (ho : o.op = .load ty x)
    (b off : Nat) (hx : a.eval x = .pointer (some ⟨b, off, none⟩)) (cs : List Value) (X : Array Value) (hX : cs.toArray = X) (d : TypeDesc) (hS : ∀ w, C w → w.rangeAt b off cs)
    (hu : P.underlying ty = some d) (hd : d.isRow = true) (hi : (P.info? ty).map (·.size) = some cs.length) (h : K (a.put o.dst (.agg X))) : o.quiet P a C K := by
  subst hX
  refine ⟨_, fun w hw => ?_, h⟩
  unfold Oper.quietAt execOp
  simp only [ho, hx, Instr.loadAt, Instr.sureAddr, Sem.run_bind, Sem.run_pure, Result.andThen_ok, run_loadVar_mid w b off ty cs d (hS w hw) hu hd hi]
  exact ⟨rfl, rfl⟩
theorem wpQuiet_load {P : Program} {ops : Array Oper} {C : World → Prop} {Q : Act → Prop} {o : Oper} {rest : List Oper} {a : Act} (hw : Region.wanted o (yielded ops a.tmps) = true) (ty : TypeId) (x : Operand) (ho : o.op = .load ty x)
    (b off : Nat) (hx : a.eval x = .pointer (some ⟨b, off, none⟩)) (cs : List Value) (X : Array Value) (hX : cs.toArray = X) (d : TypeDesc) (hS : ∀ w, C w → w.rangeAt b off cs)
    (hu : P.underlying ty = some d) (hd : d.isRow = true) (hi : (P.info? ty).map (·.size) = some cs.length) (h : wpQuiet P ops C Q rest (a.put o.dst (.agg X))) : wpQuiet P ops C Q (o :: rest) a :=
  BigFrame.wpQuiet_want hw fun K hK => quiet_load_mid ty x ho b off hx cs X hX d hS hu hd hi (hK _ h)
theorem wpQuiet_bin {P : Program} {ops : Array Oper} {C : World → Prop} {Q : Act → Prop} {o : Oper} {rest : List Oper} {a : Act} (hw : Region.wanted o (yielded ops a.tmps) = true) (op : BinOp) (t t' : TypeId) (x y : Operand) (ho : o.op = .binOp op t x y t')
    (X Y : Array Value) (hx : a.eval x = .agg X) (hy : a.eval y = .agg Y) (hm : P.eqGuardType P.depth t = false) (q : Bool) (heq : ∀ W, (binOp op t (.agg X) (.agg Y)).run P W = .ok (.bool q) W)
    (h : wpQuiet P ops C Q rest (a.put o.dst (.bool q))) : wpQuiet P ops C Q (o :: rest) a :=
  BigFrame.wpQuiet_want hw fun K hK => by
    refine ⟨_, fun w hw => ?_, hK _ h⟩
    unfold Oper.quietAt execOp
    simp only [ho, hx, hy, Sem.run_bind, run_eqGuard_agg w op t x y X Y hm, Result.andThen_ok, heq, Sem.run_pure]
    exact ⟨rfl, rfl⟩
/-- A load in a plain region, the value by its name. -/
theorem wpQ_load {P : Program} {ops : Array Oper} {rest : List Oper} {op : Oper} {a : Act} {w : World} {Q : Exit → Act → World → Prop} (hgd : op.guard = none) (ty : TypeId) (x : Operand) (ho : op.op = .load ty x)
    (b o : Nat) (hx : a.eval x = .pointer (some ⟨b, o, none⟩)) (cs : List Value) (X : Array Value) (hX : cs.toArray = X) (d : TypeDesc) (hc : w.rangeAt b o cs)
    (hu : P.underlying ty = some d) (hd : d.isRow = true) (hi : (P.info? ty).map (·.size) = some cs.length)
    (h : wpList P ops Q rest (a.put op.dst (.agg X)) w) : wpList P ops Q (op :: rest) a w := by
  subst hX
  exact wpList_load_mid hgd ty x ho b o hx cs d hc hu hd hi h
/-- A comparison of two arrays in a plain region. -/
theorem wpList_bin {P : Program} {ops : Array Oper} {rest : List Oper} {o : Oper} {a : Act} {w : World} {Q : Exit → Act → World → Prop} (hgd : o.guard = none) (op : BinOp) (t t' : TypeId) (x y : Operand) (ho : o.op = .binOp op t x y t')
    (X Y : Array Value) (hx : a.eval x = .agg X) (hy : a.eval y = .agg Y) (hm : P.eqGuardType P.depth t = false) (q : Bool) (heq : ∀ W, (binOp op t (.agg X) (.agg Y)).run P W = .ok (.bool q) W)
    (h : wpList P ops Q rest (a.put o.dst (.bool q)) w) : wpList P ops Q (o :: rest) a w :=
  wpList_plain hgd fun _ hK => by
    unfold Oper.wp execOp
    simp only [ho, hx, hy, Sem.run_bind, run_eqGuard_agg w op t x y X Y hm, Result.andThen_ok, heq, Sem.run_pure]
    exact hK _ _ h
/-- The same where the operation is wanted. -/
theorem wpList_binw {P : Program} {ops : Array Oper} {rest : List Oper} {o : Oper} {a : Act} {w : World} {Q : Exit → Act → World → Prop} (hgd : Region.wanted o (yielded ops a.tmps) = true) (op : BinOp) (t t' : TypeId) (x y : Operand) (ho : o.op = .binOp op t x y t')
    (X Y : Array Value) (hx : a.eval x = .agg X) (hy : a.eval y = .agg Y) (hm : P.eqGuardType P.depth t = false) (q : Bool) (heq : ∀ W, (binOp op t (.agg X) (.agg Y)).run P W = .ok (.bool q) W)
    (h : wpList P ops Q rest (a.put o.dst (.bool q)) w) : wpList P ops Q (o :: rest) a w :=
  wpList_step fun _ hK => by
    rw [if_pos hgd]
    unfold Oper.wp execOp
    simp only [ho, hx, hy, Sem.run_bind, run_eqGuard_agg w op t x y X Y hm, Result.andThen_ok, heq, Sem.run_pure]
    exact hK _ _ h
/-- A range of an elder block in each world of the class. -/
theorem range_regrown {w : World} {b o : Nat} {cs : List Value} (h : w.rangeAt b o cs) : ∀ w', (∃ p : Regrown, w' = Go.Sort.grow (redrawn w p.d) p.os) → w'.rangeAt b o cs := by
  rintro _ ⟨p, rfl⟩ j v hv
  exact cell_regrown (h j v hv) p.d p.os
theorem yieldsIf_loadX {P : Program} {ops : Array Oper} {S : World → Prop} {op : Oper} {a : Act} (hw : Region.wanted op (yielded ops a.tmps) = true) (ty : TypeId) (x : Operand) (ho : op.op = .load ty x)
    (b o : Nat) (hx : a.eval x = .pointer (some ⟨b, o, none⟩)) (cs : List Value) (X : Array Value) (hX : cs.toArray = X) (d : TypeDesc) (hS : ∀ w, S w → w.rangeAt b o cs)
    (hu : P.underlying ty = some d) (hd : d.isRow = true) (hi : (P.info? ty).map (·.size) = some cs.length) : YieldsIf P ops S op (.agg X) a := by
  subst hX
  exact yieldsIf_load_mid hw ty x ho b o hx cs d hS hu hd hi
theorem np {Q : Exit → Act → World → Prop} {c} {a a' : Act} {w : World} (h : NoPanic Q (.panic c) a w) : NoPanic Q (.panic c) a' w := (h : False).elim
end Go.Proofs.YtkopoepoinkpeaaDoor
