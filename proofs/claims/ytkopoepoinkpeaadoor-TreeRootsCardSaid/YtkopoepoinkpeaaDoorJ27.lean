/- Texts joined: TrQuiet ShaEql. -/
import Derived.BigQuiet
import Derived.Lib.QuietBelow
import Derived.Deep.MidRow
import Derived.Laws.StructEq
import Derived.Deep.RegionHeld3
import Derived.Test.YtkopoepoinkpeaaDoorWords
import Derived.Test.YtkopoepoinkpeaaDoorJ13
/- Whole arrays by value in a region that draws its order and only reads: a load, a comparison. No program. -/
namespace Go.Proofs.YtkopoepoinkpeaaDoor
open Go.RowKit
set_option linter.unusedVariables false
set_option linter.unusedSimpArgs false

theorem quiet_load_mid {P : Program} {C : World → Prop} {o : Oper} {a : Act} {K : Act → Prop} (ty : TypeId) (x : Operand) (ho : o.op = .load ty x)
    (b off : Nat) (hx : a.eval x = .pointer (some ⟨b, off, none⟩)) (cs : List Value) (X : Array Value) (hX : cs.toArray = X) (d : TypeDesc) (hS : ∀ w, C w → w.rangeAt b off cs)
    (hu : P.underlying ty = some d) (hd : d.isRow = true) (hi : (P.info? ty).map (·.size) = some cs.length) (h : K (a.put o.dst (.agg X))) : o.quiet P a C K := by
  subst hX
  refine ⟨_, fun w hw => ?_, h⟩
  unfold Oper.quietAt execOp
  simp only [ho, hx, Instr.loadAt, Instr.sureAddr, Sem.run_bind, Sem.run_pure, Result.andThen_ok, run_loadVar_mid w b off ty cs d (hS w hw) hu hd hi]
  exact ⟨rfl, rfl⟩
theorem wpQuiet_load {P : Program} {ops : Array Oper} {C : World → Prop} {Q : Act → Prop} {o : Oper} {rest : List Oper} {a : Act} (hw : Region.wanted o (yielded ops a.tmps) = true) (ty : TypeId) (x : Operand) (ho : o.op = .load ty x)
    (b off : Nat) (hx : a.eval x = .pointer (some ⟨b, off, none⟩)) (cs : List Value) (X : Array Value) (hX : cs.toArray = X) (d : TypeDesc) (hS : ∀ w, C w → w.rangeAt b off cs)
    (hu : P.underlying ty = some d) (hd : d.isRow = true) (hi : (P.info? ty).map (·.size) = some cs.length) (h : wpQuiet P ops C Q rest (a.put o.dst (.agg X))) : wpQuiet P ops C Q (o :: rest) a :=
  BigFrame.wpQuiet_want hw fun K hK => quiet_load_mid ty x ho b off hx cs X hX d hS hu hd hi (hK _ h)
theorem wpQuiet_bin {P : Program} {ops : Array Oper} {C : World → Prop} {Q : Act → Prop} {o : Oper} {rest : List Oper} {a : Act} (hw : Region.wanted o (yielded ops a.tmps) = true) (op : BinOp) (t t' : TypeId) (x y : Operand) (ho : o.op = .binOp op t x y t')
    (X Y : Array Value) (hx : a.eval x = .agg X) (hy : a.eval y = .agg Y) (hm : P.eqGuardType P.depth t = false) (q : Bool) (heq : ∀ W, (binOp op t (.agg X) (.agg Y)).run P W = .ok (.bool q) W)
    (h : wpQuiet P ops C Q rest (a.put o.dst (.bool q))) : wpQuiet P ops C Q (o :: rest) a :=
  BigFrame.wpQuiet_want hw fun K hK => by
    refine ⟨_, fun w hw => ?_, hK _ h⟩
    unfold Oper.quietAt execOp
    simp only [ho, hx, hy, Sem.run_bind, run_eqGuard_agg w op t x y X Y hm, Result.andThen_ok, heq, Sem.run_pure]
    exact ⟨rfl, rfl⟩
/-- A load in a plain region, the value by its name. -/
theorem wpQ_load {P : Program} {ops : Array Oper} {rest : List Oper} {op : Oper} {a : Act} {w : World} {Q : Exit → Act → World → Prop} (hgd : op.guard = none) (ty : TypeId) (x : Operand) (ho : op.op = .load ty x)
    (b o : Nat) (hx : a.eval x = .pointer (some ⟨b, o, none⟩)) (cs : List Value) (X : Array Value) (hX : cs.toArray = X) (d : TypeDesc) (hc : w.rangeAt b o cs)
    (hu : P.underlying ty = some d) (hd : d.isRow = true) (hi : (P.info? ty).map (·.size) = some cs.length)
    (h : wpList P ops Q rest (a.put op.dst (.agg X)) w) : wpList P ops Q (op :: rest) a w := by
  subst hX
  exact wpList_load_mid hgd ty x ho b o hx cs d hc hu hd hi h
/-- A comparison of two arrays in a plain region. -/
theorem wpList_bin {P : Program} {ops : Array Oper} {rest : List Oper} {o : Oper} {a : Act} {w : World} {Q : Exit → Act → World → Prop} (hgd : o.guard = none) (op : BinOp) (t t' : TypeId) (x y : Operand) (ho : o.op = .binOp op t x y t')
    (X Y : Array Value) (hx : a.eval x = .agg X) (hy : a.eval y = .agg Y) (hm : P.eqGuardType P.depth t = false) (q : Bool) (heq : ∀ W, (binOp op t (.agg X) (.agg Y)).run P W = .ok (.bool q) W)
    (h : wpList P ops Q rest (a.put o.dst (.bool q)) w) : wpList P ops Q (o :: rest) a w :=
  wpList_plain hgd fun _ hK => by
    unfold Oper.wp execOp
    simp only [ho, hx, hy, Sem.run_bind, run_eqGuard_agg w op t x y X Y hm, Result.andThen_ok, heq, Sem.run_pure]
    exact hK _ _ h
/-- The same where the operation is wanted. -/
theorem wpList_binw {P : Program} {ops : Array Oper} {rest : List Oper} {o : Oper} {a : Act} {w : World} {Q : Exit → Act → World → Prop} (hgd : Region.wanted o (yielded ops a.tmps) = true) (op : BinOp) (t t' : TypeId) (x y : Operand) (ho : o.op = .binOp op t x y t')
    (X Y : Array Value) (hx : a.eval x = .agg X) (hy : a.eval y = .agg Y) (hm : P.eqGuardType P.depth t = false) (q : Bool) (heq : ∀ W, (binOp op t (.agg X) (.agg Y)).run P W = .ok (.bool q) W)
    (h : wpList P ops Q rest (a.put o.dst (.bool q)) w) : wpList P ops Q (o :: rest) a w :=
  wpList_step fun _ hK => by
    rw [if_pos hgd]
    unfold Oper.wp execOp
    simp only [ho, hx, hy, Sem.run_bind, run_eqGuard_agg w op t x y X Y hm, Result.andThen_ok, heq, Sem.run_pure]
    exact hK _ _ h
/-- A range of an elder block in each world of the class. -/
theorem range_regrown {w : World} {b o : Nat} {cs : List Value} (h : w.rangeAt b o cs) : ∀ w', (∃ p : Regrown, w' = Go.Sort.grow (redrawn w p.d) p.os) → w'.rangeAt b o cs := by
  rintro _ ⟨p, rfl⟩ j v hv
  exact cell_regrown (h j v hv) p.d p.os
theorem yieldsIf_loadX {P : Program} {ops : Array Oper} {S : World → Prop} {op : Oper} {a : Act} (hw : Region.wanted op (yielded ops a.tmps) = true) (ty : TypeId) (x : Operand) (ho : op.op = .load ty x)
    (b o : Nat) (hx : a.eval x = .pointer (some ⟨b, o, none⟩)) (cs : List Value) (X : Array Value) (hX : cs.toArray = X) (d : TypeDesc) (hS : ∀ w, S w → w.rangeAt b o cs)
    (hu : P.underlying ty = some d) (hd : d.isRow = true) (hi : (P.info? ty).map (·.size) = some cs.length) : YieldsIf P ops S op (.agg X) a := by
  subst hX
  exact yieldsIf_load_mid hw ty x ho b o hx cs d hS hu hd hi
theorem np {Q : Exit → Act → World → Prop} {c} {a a' : Act} {w : World} (h : NoPanic Q (.panic c) a w) : NoPanic Q (.panic c) a' w := (h : False).elim
end Go.Proofs.YtkopoepoinkpeaaDoor

/- Two digests by value are compared. -/
namespace Go.Proofs.YtkopoepoinkpeaaDoor
open Go.RowKit
set_option linter.unusedVariables false
set_option linter.unusedSimpArgs false
set_option maxRecDepth 100000

theorem run_forIn_all {P : Program} {α : Type} (f : Nat → Option α × Unit → Sem (ForInStep (Option α × Unit))) (q : Nat → Bool) (r : α) :
    ∀ (is : List Nat) (w : World), (∀ i ∈ is, ∀ W, (f i (none, ())).run P W = .ok (if q i then .yield (none, ()) else .done (some r, ())) W) →
      (forIn is (none, ()) f).run P w = .ok (if is.all q then (none, ()) else (some r, ())) w := by
  intro is
  induction is with
  | nil => intro w _; simp [Sem.run_pure]
  | cons i is ih =>
    intro w h
    have h1 := h i (by simp) w
    have h2 := ih w (fun j hj => h j (by simp [hj]))
    rw [List.forIn_cons, Sem.run_bind, h1]
    by_cases hq : q i = true
    · simp only [hq, if_true, Result.andThen_ok, List.all_cons, Bool.true_and]
      exact h2
    · simp only [Bool.not_eq_true] at hq
      simp [hq, Sem.run_pure]
theorem run_eql_bytes {P : Program} (w : World) (t e : TypeId) (n : Nat) (ht : P.underlying t = some (.array n e)) (he : P.underlying e = some (.int .u8)) (hs : ∀ W, (Go.sizeOf e).run P W = .ok 1 W) (ha : ∀ W, (isAgg e).run P W = .ok false W) (d : Nat) (l m : List Nat) (hl : l.length = n) (hm : m.length = n) :
    (Op.equalIn (d + 2) t (.agg (bs l).toArray) (.agg (bs m).toArray)).run P w = .ok (decide (l = m)) w := by
  obtain ⟨k, hk⟩ : ∃ k, k = d + 1 := ⟨_, rfl⟩
  rw [show d + 2 = k + 1 by omega]
  simp only [Op.equalIn, Sem.run_bind, run_underlying ht, Result.andThen_ok, hs, Nat.mul_one]
  have hp : ∀ (x : List Nat) (i b : Nat) (W : World), x[i]? = some b → (part e (bs x).toArray i).run P W = .ok (.int .u8 (b : Int)) W := by
    intro x i b W hx
    have h1 : (bs x).toArray[i]? = some (.int .u8 (b : Int)) := by rw [List.getElem?_toArray]; unfold bs; rw [List.getElem?_map, hx]; rfl
    simp [part, ha, h1, Sem.run_bind]
  simp only [Std.Legacy.Range.forIn_eq_forIn_range']
  rw [run_forIn_all (P := P) _ (fun i => decide (l.getD i 0 = m.getD i 0)) false]
  · by_cases h : l = m
    · subst h
      have hall : (List.range' 0 [:n].size).all (fun i => decide (l.getD i 0 = l.getD i 0)) = true := by simp
      rw [hall]
      simp [Sem.run_pure]
    · have hall : (List.range' 0 [:n].size).all (fun i => decide (l.getD i 0 = m.getD i 0)) = false := by
        rw [Bool.eq_false_iff]
        intro hc
        rw [List.all_eq_true] at hc
        refine h (List.ext_getElem (by omega) fun i h1 h2 => ?_)
        have := hc i (by simp [Std.Legacy.Range.size]; omega)
        simpa [List.getD_eq_getElem?_getD, List.getElem?_eq_getElem h1, List.getElem?_eq_getElem h2] using this
      rw [hall]
      simp [h, Sem.run_pure]
  · intro i hi W
    have hin : i < n := by
      simp [Std.Legacy.Range.size] at hi
      omega
    obtain ⟨b, hb⟩ : ∃ b, l[i]? = some b := ⟨_, List.getElem?_eq_getElem (by omega)⟩
    obtain ⟨c, hc⟩ : ∃ c, m[i]? = some c := ⟨_, List.getElem?_eq_getElem (by omega)⟩
    subst hk
    have hq := run_equalIn_int (P := P) W d e .u8 .u8 (b : Int) (c : Int) he
    simp only [Sem.run_bind, hp l i b _ hb, hp m i c _ hc, Result.andThen_ok, hq, List.getD_eq_getElem?_getD, hb, hc, Option.getD_some]
    by_cases h : b = c
    · subst h
      simp [Sem.run_pure]
    · have h2 : ((b : Int) == (c : Int)) = false := by simp; omega
      simp [h2, h, Sem.run_pure]
theorem eql_hash (w : World) (l m : List Nat) (hl : l.length = 32) (hm : m.length = 32) : (binOp .eql 31 (.agg (bs l).toArray) (.agg (bs m).toArray)).run Tryd.prog w = .ok (.bool (decide (l = m))) w := by
  have h := run_eql_bytes (P := Tryd.prog) w 31 5 32 Tryd.underlying31 Tryd.underlying5 sizeS_u8 agg_u8 9998 l m hl hm
  rw [run_eql_struct, h]
  rfl
end Go.Proofs.YtkopoepoinkpeaaDoor
