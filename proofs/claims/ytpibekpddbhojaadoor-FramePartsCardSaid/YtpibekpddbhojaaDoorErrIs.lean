/- errors.Is, walked in Go's own text, where the target is an Errno and the error is an Errno, plain or wrapped once or twice in package frame's refusal. -/
import Derived.LaidEql
import Derived.Stop.Asserts
import Derived.RowKitTokens
import Derived.Test.YtpibekpddbhojaaDoorCopied
namespace Go.Proofs.YtpibekpddbhojaaDoor
open Go.RowKit Go.Extern.Stop Go.Stop Go.Extern
set_option linter.unusedVariables false
set_option maxRecDepth 100000

section
variable {P : Program} (w : World)
theorem run_equalIn_iface_int (d : Nat) {ti tn : TypeId} {ms : Array (String × TypeId)} {i : TypeInfo} {k : IntKind} (a b : Int)
    (hi : P.underlying ti = some (.interface ms)) (hn : P.underlying tn = some (.int k)) (hinfo : P.info? tn = some i) (hcomp : i.comparable = true) :
    (Op.equalIn (d + 2) ti (.iface tn (.int k a)) (.iface tn (.int k b))).run P w = .ok (a == b) w := by
  simp [Op.equalIn, run_underlying hi, run_underlying hn, typeInfo, hinfo, hcomp]
/-- Two interface values of one integer type are equal as the numbers are. -/
theorem run_eql_iface_int {ti tn : TypeId} {ms : Array (String × TypeId)} {i : TypeInfo} {k : IntKind} (a b : Int)
    (hi : P.underlying ti = some (.interface ms)) (hn : P.underlying tn = some (.int k)) (hinfo : P.info? tn = some i) (hcomp : i.comparable = true) :
    (binOp .eql ti (.iface tn (.int k a)) (.iface tn (.int k b))).run P w = .ok (.bool (a == b)) w := by
  simp only [binOp]
  simp [Op.equal, Op.maxDepth, run_equalIn_iface_int w 9998 a b hi hn hinfo hcomp]
end

theorem isTypeOf (v : Value) (w : World) : (ReflectliteType.typeOf #[.iface 24 v]).run Tryd.prog w = .ok (.iface 82 (.agg #[.pointer (some ⟨1, 24, none⟩)])) w := by kernel_rfl
/-- The model's entry for reflectlite's Comparable. -/
def compF : Array Value → Sem Value := ReflectliteType.method fun t => do Rtype.noPackHeld "Comparable" t; pure (.bool (← typeInfo t).comparable)
theorem isComparable (w : World) : (compF #[.agg #[.pointer (some ⟨1, 24, none⟩)]]).run Tryd.prog w = .ok (.bool true) w := by kernel_rfl
theorem isMethodComparable (h : Value) (w : World) : (Go.method 247 82 (.agg #[h]) "Comparable").run Tryd.prog w = .ok (76, .agg #[h]) w := by kernel_rfl
theorem isComp : (Tryd.prog.info? 24).map (·.comparable) = some true := by kernel_rfl
theorem noIsE (v : Value) (xT : TypeId) (w : World) : (Instr.typeAssert (.iface 24 v) xT 84 true).run Tryd.prog w = .ok (.tuple #[.nilIface, .bool false]) w := run_typeAssert_lacksB Tryd.underlying84 (by kernel_rfl) (by kernel_rfl) v xT w
theorem noUnwrapE (v : Value) (xT : TypeId) (w : World) : (Instr.typeAssert (.iface 24 v) xT 87 true).run Tryd.prog w = .ok (.tuple #[.nilIface, .bool false]) w := run_typeAssert_lacksB Tryd.underlying87 (by kernel_rfl) (by kernel_rfl) v xT w
theorem noUnwrapsE (v : Value) (xT : TypeId) (w : World) : (Instr.typeAssert (.iface 24 v) xT 89 true).run Tryd.prog w = .ok (.tuple #[.nilIface, .bool false]) w := run_typeAssert_lacksB Tryd.underlying89 (by kernel_rfl) (by kernel_rfl) v xT w
theorem noIsR (v : Value) (xT : TypeId) (w : World) : (Instr.typeAssert (.iface 67 v) xT 84 true).run Tryd.prog w = .ok (.tuple #[.nilIface, .bool false]) w := run_typeAssert_lacksB Tryd.underlying84 (by kernel_rfl) (by kernel_rfl) v xT w
theorem hasUnwrapR (v : Value) (xT : TypeId) (w : World) : (Instr.typeAssert (.iface 67 v) xT 87 true).run Tryd.prog w = .ok (.tuple #[.iface 67 v, .bool true]) w := run_typeAssert_hasB Tryd.underlying87 (by kernel_rfl) v xT w
theorem methodUnwrapR (v : Value) (w : World) : (Go.method 247 67 v "Unwrap").run Tryd.prog w = .ok (72, v) w := by kernel_rfl

theorem is_flat (k t : Int) (w : World) :
    Calls Tryd.prog 28 #[.iface 24 (.int .i64 k), .iface 24 (.int .i64 t)] w fun e w' => e = .returned (.bool (k == t)) ∧ w = w' := by
  obtain ⟨i, hi, hcmp⟩ := Option.map_eq_some_iff.1 isComp
  have xTO := @run_callFunc_extern Tryd.prog 35 _ ReflectliteType.typeOf Tryd.func35 (by kernel_rfl) (by kernel_rfl) (by kernel_rfl) (by kernel_rfl)
  have xCO := @run_callFunc_extern Tryd.prog 76 _ compF Tryd.func76 (by kernel_rfl) (by kernel_rfl) (by kernel_rfl) (by kernel_rfl)
  have tT := isTypeOf
  have cT := isComparable
  have mR := isMethodComparable
  have nE := noIsE
  have uE := noUnwrapE
  have vE := noUnwrapsE
  have heq := run_eql_iface_int (P := Tryd.prog) w (tn := 24) (k := .i64) k t Tryd.underlying43 Tryd.underlying24 hi hcmp
  by_cases hkt : k = t
  · subst hkt
    have hb : (k == k) = true := by simp
    rw [hb] at heq ⊢
    clear hb
    go_enter Tryd.func28, Tryd.ntmps28
    go_wp2
    refine wp_loop_rounds 1 ?_
    rw [rounds_succ]
    go_wp2
    go_ret
    exact ⟨rfl, rfl⟩
  · have hb : (k == t) = false := by simp [hkt]
    rw [hb] at heq ⊢
    clear hb
    go_enter Tryd.func28, Tryd.ntmps28
    go_wp2
    refine wp_loop_rounds 1 ?_
    rw [rounds_succ]
    go_wp2
    go_ret
    exact ⟨rfl, rfl⟩
theorem is_one (g : Nat) (k t : Int) (w : World) (h1 : w.cell? ⟨g, 1, none⟩ = some (.iface 24 (.int .i64 k))) :
    Calls Tryd.prog 28 #[.iface 67 (.pointer (some ⟨g, 0, none⟩)), .iface 24 (.int .i64 t)] w fun e w' => e = .returned (.bool (k == t)) ∧ w = w' := by
  obtain ⟨i, hi, hcmp⟩ := Option.map_eq_some_iff.1 isComp
  have xTO := @run_callFunc_extern Tryd.prog 35 _ ReflectliteType.typeOf Tryd.func35 (by kernel_rfl) (by kernel_rfl) (by kernel_rfl) (by kernel_rfl)
  have xCO := @run_callFunc_extern Tryd.prog 76 _ compF Tryd.func76 (by kernel_rfl) (by kernel_rfl) (by kernel_rfl) (by kernel_rfl)
  have tT := isTypeOf
  have cT := isComparable
  have mR := isMethodComparable
  have nE := noIsE
  have uE := noUnwrapE
  have vE := noUnwrapsE
  have nR := noIsR
  have uR := hasUnwrapR
  have mU := methodUnwrapR
  have hty := run_eql_iface_types (P := Tryd.prog) 67 24 (.pointer (some ⟨g, 0, none⟩)) (.int .i64 t) Tryd.underlying43 (by decide) w
  have heq := run_eql_iface_int (P := Tryd.prog) w (tn := 24) (k := .i64) k t Tryd.underlying43 Tryd.underlying24 hi hcmp
  by_cases hkt : k = t
  · subst hkt
    have hb : (k == k) = true := by simp
    rw [hb] at heq ⊢
    clear hb
    go_enter Tryd.func28, Tryd.ntmps28
    go_wp2
    refine wp_loop_rounds 2 ?_
    rw [rounds_succ]
    go_wp2
    rw [rounds_succ]
    go_wp2
    go_ret
    exact ⟨rfl, rfl⟩
  · have hb : (k == t) = false := by simp [hkt]
    rw [hb] at heq ⊢
    clear hb
    go_enter Tryd.func28, Tryd.ntmps28
    go_wp2
    refine wp_loop_rounds 2 ?_
    rw [rounds_succ]
    go_wp2
    rw [rounds_succ]
    go_wp2
    go_ret
    exact ⟨rfl, rfl⟩
set_option maxHeartbeats 1000000 in
theorem is_two (g f : Nat) (k t : Int) (w : World) (h1 : w.cell? ⟨g, 1, none⟩ = some (.iface 67 (.pointer (some ⟨f, 0, none⟩)))) (h2 : w.cell? ⟨f, 1, none⟩ = some (.iface 24 (.int .i64 k))) :
    Calls Tryd.prog 28 #[.iface 67 (.pointer (some ⟨g, 0, none⟩)), .iface 24 (.int .i64 t)] w fun e w' => e = .returned (.bool (k == t)) ∧ w = w' := by
  obtain ⟨i, hi, hcmp⟩ := Option.map_eq_some_iff.1 isComp
  have xTO := @run_callFunc_extern Tryd.prog 35 _ ReflectliteType.typeOf Tryd.func35 (by kernel_rfl) (by kernel_rfl) (by kernel_rfl) (by kernel_rfl)
  have xCO := @run_callFunc_extern Tryd.prog 76 _ compF Tryd.func76 (by kernel_rfl) (by kernel_rfl) (by kernel_rfl) (by kernel_rfl)
  have tT := isTypeOf
  have cT := isComparable
  have mR := isMethodComparable
  have nE := noIsE
  have uE := noUnwrapE
  have vE := noUnwrapsE
  have nR := noIsR
  have uR := hasUnwrapR
  have mU := methodUnwrapR
  have hty := run_eql_iface_types (P := Tryd.prog) 67 24 (.pointer (some ⟨g, 0, none⟩)) (.int .i64 t) Tryd.underlying43 (by decide) w
  have hty2 := run_eql_iface_types (P := Tryd.prog) 67 24 (.pointer (some ⟨f, 0, none⟩)) (.int .i64 t) Tryd.underlying43 (by decide) w
  have heq := run_eql_iface_int (P := Tryd.prog) w (tn := 24) (k := .i64) k t Tryd.underlying43 Tryd.underlying24 hi hcmp
  by_cases hkt : k = t
  · subst hkt
    have hb : (k == k) = true := by simp
    rw [hb] at heq ⊢
    clear hb
    go_enter Tryd.func28, Tryd.ntmps28
    go_wp2
    refine wp_loop_rounds 3 ?_
    rw [rounds_succ]
    go_wp2
    rw [rounds_succ]
    go_wp2
    rw [rounds_succ]
    go_wp2
    go_ret
    exact ⟨rfl, rfl⟩
  · have hb : (k == t) = false := by simp [hkt]
    rw [hb] at heq ⊢
    clear hb
    go_enter Tryd.func28, Tryd.ntmps28
    go_wp2
    refine wp_loop_rounds 3 ?_
    rw [rounds_succ]
    go_wp2
    rw [rounds_succ]
    go_wp2
    rw [rounds_succ]
    go_wp2
    go_ret
    exact ⟨rfl, rfl⟩
end Go.Proofs.YtpibekpddbhojaaDoor
