/- Texts joined: ErrChain Err Handle. -/
import Derived.Test.YtieknhhhcjdbnaaDoorJ4
import Derived.Test.YtieknhhhcjdbnaaDoorRdE
import Derived.Test.YtieknhhhcjdbnaaDoorRows
import Derived.ChangeSame
import Derived.ChangeVars
import Derived.JoinedOf
import Derived.RowKit
import Derived.RowKitTokens
import Derived.LaidLaws
import Derived.LaidHandle
import Derived.Stop.Joined
/- errors.As at an Errno behind a fault. -/
namespace Go.Proofs.YtieknhhhcjdbnaaDoor
open Go.RowKit Go.Extern.Stop Go.Stop Go.Extern
set_option linter.unusedVariables false
set_option linter.unusedSimpArgs false
set_option maxRecDepth 100000

theorem method_unwrap (p : Value) (w : World) : (Go.method 261 93 p "Unwrap").run Tryd.prog w = .ok (94, p) w := by kernel_rfl
theorem method_unwrap' (p : Addr) (w : World) : (Go.method 261 93 (.pointer (some p)) "Unwrap").run Tryd.prog w = .ok (94, .pointer (some p)) w := by kernel_rfl
theorem lacksAs (v : Value) (xT : TypeId) (w : World) : (Instr.typeAssert (.iface 93 v) xT 124 true).run Tryd.prog w = .ok (.tuple #[.nilIface, .bool false]) w := run_typeAssert_lacksB Tryd.underlying124 (by kernel_rfl) (by kernel_rfl) v xT w
theorem hasUnwrap (v : Value) (xT : TypeId) (w : World) : (Instr.typeAssert (.iface 93 v) xT 127 true).run Tryd.prog w = .ok (.tuple #[.iface 93 v, .bool true]) w := run_typeAssert_hasB Tryd.underlying127 (by kernel_rfl) v xT w
set_option maxHeartbeats 4000000 in
theorem as_chain0 (x : Int) (t : Addr) (g : Nat) (old : Value) (w : World) (hg : w.cell? ⟨0, 0, none⟩ = some (.iface 119 (.agg #[.pointer (some ⟨1, 56, none⟩)]))) (ht0 : w.cell? t = some old) (hf0 : w.frozen? t = false)
    (hflt : w.cell? ⟨g, 1, none⟩ = some (.iface 44 (.int .i64 x))) :
    Calls Tryd.prog 59 #[.iface 93 (.pointer (some ⟨g, 0, none⟩)), .iface 96 (.pointer (some t))] w fun ev w' => ev = .returned (.bool true) ∧ w' = ((((w.alloc (.cells #[.pointer (some t)] 96)).alloc (.cells #[.pointer (some ⟨1, 96, none⟩), .pointer (some ⟨w.heap.size, 0, none⟩), .int .u64 150] 109)).alloc (.cells #[.pointer (some ⟨1, 96, none⟩), .pointer (some ⟨w.heap.size, 0, none⟩), .int .u64 150] 109)).alloc (.cells #[.int .i64 x] 44)).setCell t (.int .i64 x) := by
  have xVO := @run_callFunc_extern Tryd.prog 68 _ (fun args => ReflectliteValue.unpack (args.getD 0 (.tuple #[]))) Tryd.func68 (by kernel_rfl) (by kernel_rfl) (by kernel_rfl) (by kernel_rfl)
  have xTY := @run_callFunc_extern Tryd.prog 69 _ (ReflectliteValue.methodAny (ReflectliteValue.valueError "reflectlite.Value.Type" 0) (fun t _ _ _ => ReflectliteType.toType t)) Tryd.func69 (by kernel_rfl) (by kernel_rfl) (by kernel_rfl) (by kernel_rfl)
  have xIN := @run_callFunc_extern Tryd.prog 70 _ (ReflectliteValue.method (ReflectliteValue.valueError "reflectlite.Value.IsNil" 0) ReflectliteValue.isNil) Tryd.func70 (by kernel_rfl) (by kernel_rfl) (by kernel_rfl) (by kernel_rfl)
  have xKI := @run_callFunc_extern Tryd.prog 89 _ (ReflectliteType.abiMethod fun t => do pure (.int .u8 (← Rtype.kind t))) Tryd.func89 (by kernel_rfl) (by kernel_rfl) (by kernel_rfl) (by kernel_rfl)
  have xEL := @run_callFunc_extern Tryd.prog 101 _ (ReflectliteType.method ReflectliteType.elem) Tryd.func101 (by kernel_rfl) (by kernel_rfl) (by kernel_rfl) (by kernel_rfl)
  have xIM := @run_callFunc_extern Tryd.prog 102 _ (ReflectliteType.relation "Implements" ReflectliteType.implements_) Tryd.func102 (by kernel_rfl) (by kernel_rfl) (by kernel_rfl) (by kernel_rfl)
  have xTO := @run_callFunc_extern Tryd.prog 72 _ ReflectliteType.typeOf Tryd.func72 (by kernel_rfl) (by kernel_rfl) (by kernel_rfl) (by kernel_rfl)
  have xAT := @run_callFunc_extern Tryd.prog 99 _ (ReflectliteType.relation "AssignableTo" ReflectliteType.assignableTo) Tryd.func99 (by kernel_rfl) (by kernel_rfl) (by kernel_rfl) (by kernel_rfl)
  have xVE := @run_callFunc_extern Tryd.prog 73 _ (ReflectliteValue.method (ReflectliteValue.valueError "reflectlite.Value.Elem" 0) ReflectliteValue.elem) Tryd.func73 (by kernel_rfl) (by kernel_rfl) (by kernel_rfl) (by kernel_rfl)
  have xVS := @run_callFunc_extern Tryd.prog 74 _ ReflectliteValue.set Tryd.func74 (by kernel_rfl) (by kernel_rfl) (by kernel_rfl) (by kernel_rfl)
  have tO := typeOfE
  have tO2 := typeOfF
  have a26 := assignableFE
  have mU := method_unwrap'
  have lA := lacksAs
  have hU := hasUnwrap
  have mA := methodAssignableTo
  have a25 := assignableE
  have v25 := valueOfE
  have f6 := valueOfPE
  have f7 := typePE
  have mK := methodKind
  have mE := methodElem
  have mI := methodImplements
  have k27 := kindPE
  have k25 := kindE
  have e27 := elemTPE
  have i25 := implementsE
  have n8 := isNilPE ⟨w.heap.size, 0, none⟩ t ((w.alloc (.cells #[.pointer (some t)] 96)).alloc (.cells #[.pointer (some ⟨1, 96, none⟩), .pointer (some ⟨w.heap.size, 0, none⟩), .int .u64 150] 109)) (by simp)
  have hlt : 0 < w.heap.size := World.block_lt_of_cell? w _ hg
  have hg2 : ((w.alloc (.cells #[.pointer (some t)] 96)).alloc (.cells #[.pointer (some ⟨1, 96, none⟩), .pointer (some ⟨w.heap.size, 0, none⟩), .int .u64 150] 109)).cell? ⟨0, 0, none⟩ = some (.iface 119 (.agg #[.pointer (some ⟨1, 56, none⟩)])) := by
    rw [World.cell?_alloc_lt _ _ ⟨0, 0, none⟩ (by first | (simp; done) | (simp; omega)), World.cell?_alloc_lt _ _ ⟨0, 0, none⟩ hlt]; exact hg
  have hgl : g < w.heap.size := World.block_lt_of_cell? w _ hflt
  have hflt2 : (((w.alloc (.cells #[.pointer (some t)] 96)).alloc (.cells #[.pointer (some ⟨1, 96, none⟩), .pointer (some ⟨w.heap.size, 0, none⟩), .int .u64 150] 109)).alloc (.cells #[.pointer (some ⟨1, 96, none⟩), .pointer (some ⟨w.heap.size, 0, none⟩), .int .u64 150] 109)).cell? ⟨g, 1, none⟩ = some (.iface 44 (.int .i64 x)) := by
    rw [World.cell?_alloc_lt _ _ ⟨g, 1, none⟩ (by simp; omega), World.cell?_alloc_lt _ _ ⟨g, 1, none⟩ (by simp; omega), World.cell?_alloc_lt _ _ ⟨g, 1, none⟩ hgl]; exact hflt
  have htl : t.block < w.heap.size := World.block_lt_of_cell? w t ht0
  have el := elemVE ⟨w.heap.size, 0, none⟩ t (((w.alloc (.cells #[.pointer (some t)] 96)).alloc (.cells #[.pointer (some ⟨1, 96, none⟩), .pointer (some ⟨w.heap.size, 0, none⟩), .int .u64 150] 109)).alloc (.cells #[.pointer (some ⟨1, 96, none⟩), .pointer (some ⟨w.heap.size, 0, none⟩), .int .u64 150] 109)) (by rw [World.cell?_alloc_lt _ _ ⟨w.heap.size, 0, none⟩ (by simp; omega)]; simp)
  have st := setE t ⟨w.heap.size + 1 + 1 + 1, 0, none⟩ x old ((((w.alloc (.cells #[.pointer (some t)] 96)).alloc (.cells #[.pointer (some ⟨1, 96, none⟩), .pointer (some ⟨w.heap.size, 0, none⟩), .int .u64 150] 109)).alloc (.cells #[.pointer (some ⟨1, 96, none⟩), .pointer (some ⟨w.heap.size, 0, none⟩), .int .u64 150] 109)).alloc (.cells #[.int .i64 x] 44))
    (by rw [World.cell?_alloc_at _ _ _ _ (by simp)]; rfl)
    (by rw [World.cell?_alloc_lt _ _ t (by simp; omega), World.cell?_alloc_lt _ _ t (by simp; omega), World.cell?_alloc_lt _ _ t (by simp; omega), World.cell?_alloc_lt _ _ t htl]; exact ht0)
    (by rw [World.frozen?_alloc_old _ _ t (by simp; omega), World.frozen?_alloc_old _ _ t (by simp; omega), World.frozen?_alloc_old _ _ t (by simp; omega), World.frozen?_alloc_old _ _ t (Nat.ne_of_lt htl)]; exact hf0)
  go_enter Tryd.func59, Tryd.ntmps59
  go_wp2
  refine wp_loop_rounds 2 ?_
  rw [rounds_succ]
  go_wp2
  rw [rounds_succ]
  go_wp2
  go_ret
  exact ⟨rfl, rfl⟩
/-- What a set target leaves: its one cell holds the value; nothing else that was there has changed. -/
def Hit (w : World) (t : Addr) (v : Value) (w' : World) : Prop := w.grownBy w' (some t.block) ∧ w'.cell? t = some v ∧ w'.frozen? t = false
theorem hit_of {w : World} {t : Addr} {old v : Value} {o1 o2 o3 o4 : Obj} (ht : w.cell? t = some old) (hf : w.frozen? t = false) : Hit w t v (((((w.alloc o1).alloc o2).alloc o3).alloc o4).setCell t v) := by
  have htl : t.block < w.heap.size := World.block_lt_of_cell? w t ht
  have hc : ((((w.alloc o1).alloc o2).alloc o3).alloc o4).cell? t = some old := by
    rw [World.cell?_alloc_lt _ _ t (by simp; omega), World.cell?_alloc_lt _ _ t (by simp; omega), World.cell?_alloc_lt _ _ t (by simp; omega), World.cell?_alloc_lt _ _ t htl]; exact ht
  have hz : ((((w.alloc o1).alloc o2).alloc o3).alloc o4).frozen? t = false := by
    rw [World.frozen?_alloc_old _ _ t (by simp; omega), World.frozen?_alloc_old _ _ t (by simp; omega), World.frozen?_alloc_old _ _ t (by simp; omega), World.frozen?_alloc_old _ _ t (Nat.ne_of_lt htl)]; exact hf
  refine ⟨only_setCell (only_alloc (only_alloc (only_alloc (only_alloc (World.grownBy.refl w _) _) _) _) _) (.inl rfl) _, World.cell?_setCell_same _ _ _ hc, ?_⟩
  rw [World.frozen?_setCell]; exact hz
theorem as_hit (x t : Addr) (old : Value) (w : World) (hg : w.cell? ⟨0, 0, none⟩ = some (.iface 119 (.agg #[.pointer (some ⟨1, 56, none⟩)]))) (ht0 : w.cell? t = some old) (hf0 : w.frozen? t = false) :
    Calls Tryd.prog 59 #[.iface 93 (.pointer (some x)), .iface 95 (.pointer (some t))] w fun ev w' => ev = .returned (.bool true) ∧ Hit w t (.pointer (some x)) w' :=
  (as_hitF0 x t old w hg ht0 hf0).mono fun e w' ⟨he, hw⟩ => ⟨he, by rw [hw]; exact hit_of ht0 hf0⟩
theorem as_chain (x : Int) (t : Addr) (g : Nat) (old : Value) (w : World) (hg : w.cell? ⟨0, 0, none⟩ = some (.iface 119 (.agg #[.pointer (some ⟨1, 56, none⟩)]))) (ht0 : w.cell? t = some old) (hf0 : w.frozen? t = false)
    (hflt : w.cell? ⟨g, 1, none⟩ = some (.iface 44 (.int .i64 x))) :
    Calls Tryd.prog 59 #[.iface 93 (.pointer (some ⟨g, 0, none⟩)), .iface 96 (.pointer (some t))] w fun ev w' => ev = .returned (.bool true) ∧ Hit w t (.int .i64 x) w' :=
  (as_chain0 x t g old w hg ht0 hf0 hflt).mono fun e w' ⟨he, hw⟩ => ⟨he, by rw [hw]; exact hit_of ht0 hf0⟩
end Go.Proofs.YtieknhhhcjdbnaaDoor

/- Contract of the Reader's Err: the error's number and its place, found by errors.As. -/
namespace Go.Proofs.YtieknhhhcjdbnaaDoor
open Go.RowKit
set_option linter.unusedVariables false
set_option linter.unusedSimpArgs false
set_option maxRecDepth 100000

/-- The variable that errors.As asks for the type error. -/
def Met (w : World) : Prop := w.cell? ⟨0, 0, none⟩ = some (.iface 119 (.agg #[.pointer (some ⟨1, 56, none⟩)]))
theorem Met.next {w w' : World} (h : Met w) (hb : Below w.heap.size w w') : Met w' := (hb.cell (World.block_lt_of_cell? _ _ h)).trans h
/-- An error's number and place, as two results. -/
def Tells (k : Int) (on : Int) (e : Ending) : Prop := e = .returned (.tuple #[.int .i64 k, .int .i64 on])

theorem err_nil (w : World) : Calls Tryd.prog 35 #[.pointer none] w fun e w' => Tells 1 0 e ∧ Below w.heap.size w w' := by
  go_enter Tryd.func35, Tryd.ntmps35
  go_wp2_with fail
  refine bodyPost_ret (v := .tuple #[.int .i64 1, .int .i64 0]) (by simp [results, Tryd.results35, go_sem]) rfl ⟨rfl, ?_⟩
  exact (Below.refl _ _).alloc (Nat.le_refl _) _
theorem err_none {w : World} {g : Nat} {l : List Nat} {at_ : Nat} (h : RdS w g l at_ none) : Calls Tryd.prog 35 #[.pointer (some ⟨g, 0, none⟩)] w fun e w' => Tells 0 0 e ∧ Below w.heap.size w w' := by
  obtain ⟨A, n, c, err, hR, rfl⟩ := h
  have hc := ((hR.blk.alloc (.cells #[.int .i64 0] 44)).alloc (.cells #[.pointer none] 93)).cell 2
  simp only [List.getElem?_toArray, List.getElem?_cons_succ, List.getElem?_cons_zero] at hc
  go_enter Tryd.func35, Tryd.ntmps35
  go_wp2_with (go_at_call 59; refine (as_nil _ _).mono ?_; rintro e w1 ⟨rfl, rfl⟩)
  refine bodyPost_ret (v := .tuple #[.int .i64 0, .int .i64 0]) (by simp [results, Tryd.results35, go_sem]) rfl ⟨rfl, ?_⟩
  exact ((Below.refl _ _).alloc (Nat.le_refl _) _).alloc (by simp) _
set_option maxHeartbeats 1000000 in
theorem err_some {w : World} {g : Nat} {l : List Nat} {at_ : Nat} (k : Int) (on : Nat) (hm : Met w) (h : RdS w g l at_ (some (k, on))) :
    Calls Tryd.prog 35 #[.pointer (some ⟨g, 0, none⟩)] w fun e w' => Tells k (on : Int) e ∧ Below w.heap.size w w' := by
  obtain ⟨A, n, c, err, hR, f, rfl, hf⟩ := h
  have hb0 : Below w.heap.size w ((w.alloc (.cells #[.int .i64 0] 44)).alloc (.cells #[.pointer none] 93)) := ((Below.refl _ _).alloc (Nat.le_refl _) _).alloc (by simp) _
  have hc := (hR.blk.below hb0 hR.blk.lt).cell 2
  simp only [List.getElem?_toArray, List.getElem?_cons_succ, List.getElem?_cons_zero] at hc
  have hf0 := hf.below hb0 hf.lt
  have hm0 := hm.next hb0
  have hfl := hf.lt
  have hml : 0 < w.heap.size := World.block_lt_of_cell? _ _ hm
  have he0 : Blk ((w.alloc (.cells #[.int .i64 0] 44)).alloc (.cells #[.pointer none] 93)) w.heap.size 44 #[.int .i64 0] := (Blk.new w _ _).alloc _
  have hp0 : Blk ((w.alloc (.cells #[.int .i64 0] 44)).alloc (.cells #[.pointer none] 93)) (w.heap.size + 1) 93 #[.pointer none] := by
    have := Blk.new (w.alloc (.cells #[.int .i64 0] 44)) 93 #[.pointer none]
    simpa using this
  go_enter Tryd.func35, Tryd.ntmps35
  go_wp2_with fail
  refine (as_hit ⟨f, 0, none⟩ ⟨w.heap.size + 1, 0, none⟩ (.pointer none) _ hm0 (by rw [hp0.cell]; rfl) (hp0.frozen 0)).mono ?_
  rintro e w1 ⟨rfl, hg1, hc1, hz1⟩
  have hf1 := hf0.grown hg1 (by first | (simp; done) | (simp; omega))
  have he1 := he0.grown hg1 (by first | (simp; done) | (simp; omega))
  have hm1 : Met w1 := hg1.cell hm0 (by first | (simp; done) | (simp; omega))
  have hb1 : Below w.heap.size w w1 := hb0.grown hg1 (by simp; omega) (fun k hk => by simp at hk; omega)
  go_wp2_with fail
  refine (as_chain k ⟨w.heap.size, 0, none⟩ f (.int .i64 0) w1 hm1 (by rw [he1.cell]; rfl) (he1.frozen 0) (by rw [hf1.cell]; rfl)).mono ?_
  rintro e w2 ⟨rfl, hg2, hc2, hz2⟩
  have hp2 : w2.cell? ⟨w.heap.size + 1, 0, none⟩ = some (.pointer (some ⟨f, 0, none⟩)) := hg2.cell hc1 (by first | (simp; done) | (simp; omega))
  have hf2 : w2.cell? ⟨f, 0, none⟩ = some (.int .i64 (on : Int)) := by rw [(hf1.grown hg2 (by first | (simp; done) | (simp; omega))).cell]; rfl
  have hb2 : Below w.heap.size w w2 := hb1.grown hg2 hb1.size (fun k hk => by simp at hk; omega)
  clear hf0 hf1 hm0 hm1 he0 he1 hp0 hc hb0
  go_wp2_with fail
  go_region
  all_goals go_wp2_with fail
  all_goals
    refine bodyPost_ret (v := .tuple #[.int .i64 k, .int .i64 (on : Int)]) (by simp [results, Tryd.results35, go_sem, hc2]) rfl ⟨rfl, ?_⟩
  exact (hb2.setCell (Nat.le_refl _) _).drew

def errS (x : Option (Int × Nat)) : Int × Nat := x.getD (0, 0)
theorem err_is {w : World} {g : Nat} {l : List Nat} {at_ : Nat} {x : Option (Int × Nat)} (hm : Met w) (h : RdS w g l at_ x) :
    Calls Tryd.prog 35 #[.pointer (some ⟨g, 0, none⟩)] w fun e w' => Tells (errS x).1 ((errS x).2 : Int) e ∧ Below w.heap.size w w' := by
  cases x with
  | none => exact err_none h
  | some x => exact err_some x.1 x.2 hm h
end Go.Proofs.YtieknhhhcjdbnaaDoor

/- The listed variable errors.errorType: from the row's condition to the variable's cell; a world that meets it. -/
namespace Go.Proofs.YtieknhhhcjdbnaaDoor
open Go.ChangeShapes Go.WideShapes Go.RowKit
set_option maxRecDepth 100000

def laidErr : List (String × DataW Unit) := [("errors.errorType", Rows.laid_errors_errorType)]
theorem et_named : Tryd.prog.globalNamed "errors.errorType" = some 0 := by kernel_rfl
theorem rt_find : (Tryd.prog.cutTypes.find? (·.1 == "internal/reflectlite.rtype")).map (·.2) = some 119 := by kernel_rfl
theorem oneRow : ((List.range 161).filter fun t => Tryd.prog.rowNamed t [101, 114, 114, 111, 114]) = [56] := by kernel_rfl
theorem types_size : Tryd.prog.types.size = 161 := by kernel_rfl
theorem met_of_laid {W : World} (h : laidMetH Tryd.prog laidErr W) : Met W := by
  have h' : laidMet Tryd.prog [] W ∧ handlesMet Tryd.prog laidErr W := h
  obtain ⟨name, u, ty, e1, e2, e3, e4, e5⟩ := h'.2 _ (List.mem_singleton.2 rfl)
  have en : name = [101, 114, 114, 111, 114] := (Option.some.inj e1).symm
  subst en
  obtain rfl := Option.some.inj (rt_find.symm.trans e2)
  have hm : ty ∈ (List.range 161).filter fun t => Tryd.prog.rowNamed t [101, 114, 114, 111, 114] := List.mem_filter.2 ⟨List.mem_range.2 (by rw [← types_size]; exact e3), e4⟩
  rw [oneRow] at hm
  obtain rfl := List.mem_singleton.1 hm
  have hh : typeHandle Tryd.prog 56 = .pointer (some ⟨1, 56, none⟩) := by kernel_rfl
  rw [hh] at e5
  unfold Met
  simpa using World.var?_cell et_named e5 0

noncomputable def laidWorld (os : Os) : World :=
  let w0 := World.holding Tryd.prog os ⟨#[], #[], []⟩
  { w0 with heap := w0.heap.modify 0 fun
      | .cells _ t frozen => .cells #[.iface 119 (.agg #[.pointer (some ⟨1, 56, none⟩)])] t frozen
      | o => o }
theorem laidWorld_met (os : Os) (args : Array Value) : laidMetH Tryd.prog laidErr ((laidWorld os).forCall (fun _ _ => 0) ⟨#[], args, []⟩).memory :=
  laidMetH_of_parts (laidMet_nil _ _) (by kernel_rfl)
end Go.Proofs.YtieknhhhcjdbnaaDoor
