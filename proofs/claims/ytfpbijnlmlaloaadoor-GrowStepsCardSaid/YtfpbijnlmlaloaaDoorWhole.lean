/- Whole arrays by value, any program: the operations that load one out of a block and store one into it. No condition. -/
import Derived.Test.YtfpbijnlmlaloaaDoorWords
import Derived.Deep.WholeRow
namespace Go.Proofs.YtfpbijnlmlaloaaDoor
open Go.RowKit
section
variable {P : Program} {w : World} {g : Nat} {t : TypeId} {cs cs' : Array Value}
theorem run_loadAt_row {n : Nat} {e : TypeId} (h : Blk w g t cs) (hu : P.underlying t = some (.array n e)) (hi : (P.info? t).map (·.size) = some cs.size) :
    (Instr.loadAt t (.pointer (some ⟨g, 0, none⟩))).run P w = .ok (.agg cs) w := by
  simp only [Instr.loadAt, Instr.sureAddr, Sem.run_bind, Sem.run_pure, Result.andThen]
  exact run_loadVar_row _ _ t t cs (0, 0) _ h hu rfl hi
theorem run_storeAt_row (h : Blk w g t cs) (hi : (P.info? t).map (·.size) = some cs'.size) (ho : cs.size = cs'.size) (h1 : cs'.all (·.oneCell') = true) :
    (Instr.storeAt t (.pointer (some ⟨g, 0, none⟩)) (.agg cs')).run P w = .ok () (w.setRow g cs') := by
  simp only [Instr.storeAt, Instr.sureAddr, Sem.run_bind, Sem.run_pure, Result.andThen]
  exact run_storeVar_row _ _ t t cs cs' h hi ho h1
theorem run_storeCells_row (h : Blk w g t cs) (hi : (P.info? t).map (·.size) = some cs'.size) (ho : cs.size = cs'.size) (h1 : cs'.all (·.oneCell') = true) :
    (storeCells ⟨g, 0, none⟩ cs'.toList 0).run P w = .ok () (w.setRow g cs') := by
  have := run_storeVar_row (P := P) _ _ t t cs cs' h hi ho h1
  cases hq : P.info? t with
  | none => simp [hq] at hi
  | some i =>
    have hs : cs'.size = i.size := by simp [hq] at hi; omega
    simpa [storeVar, sizeOf, typeInfo, hq, Value.cells, hs] using this
theorem wp_load_row {o : Oper} {a : Act} {K : Act → World → Prop} {Q : Exit → Act → World → Prop} {n : Nat} {e : TypeId} (p : Operand) (ho : o.op = .load t p) (hp : a.eval p = .pointer (some ⟨g, 0, none⟩))
    (h : Blk w g t cs) (hu : P.underlying t = some (.array n e)) (hi : (P.info? t).map (·.size) = some cs.size) (hK : K (a.put o.dst (.agg cs)) w) : o.wp P a w K Q := by
  unfold Oper.wp execOp
  simp only [ho, hp, Sem.run_bind, Sem.run_pure, run_loadAt_row h hu hi, Result.andThen_ok]
  exact hK
theorem wpList_load_row {ops : Array Oper} {rest : List Oper} {o : Oper} {a : Act} {Q : Exit → Act → World → Prop} {n : Nat} {e : TypeId} (hgd : o.guard = none) (p : Operand) (ho : o.op = .load t p) (hp : a.eval p = .pointer (some ⟨g, 0, none⟩))
    (h : Blk w g t cs) (hu : P.underlying t = some (.array n e)) (hi : (P.info? t).map (·.size) = some cs.size) (hK : wpList P ops Q rest (a.put o.dst (.agg cs)) w) : wpList P ops Q (o :: rest) a w :=
  wpList_plain hgd fun _ hK' => wp_load_row p ho hp h hu hi (hK' _ _ hK)
theorem wp_store_row {o : Oper} {a : Act} {K : Act → World → Prop} {Q : Exit → Act → World → Prop} (p v : Operand) (ho : o.op = .store t p v) (hp : a.eval p = .pointer (some ⟨g, 0, none⟩)) (hv : a.eval v = .agg cs')
    (h : Blk w g t cs) (hi : (P.info? t).map (·.size) = some cs'.size) (hs : cs.size = cs'.size) (h1 : cs'.all (·.oneCell') = true) (hK : K (a.put o.dst undef) (w.setRow g cs')) : o.wp P a w K Q := by
  unfold Oper.wp execOp
  simp only [ho, hp, hv, Sem.run_bind, Sem.run_pure, run_storeAt_row h hi hs h1, Result.andThen_ok]
  exact hK
theorem wpList_store_row {ops : Array Oper} {rest : List Oper} {o : Oper} {a : Act} {Q : Exit → Act → World → Prop} (hgd : o.guard = none) (p v : Operand) (ho : o.op = .store t p v) (hp : a.eval p = .pointer (some ⟨g, 0, none⟩)) (hv : a.eval v = .agg cs')
    (h : Blk w g t cs) (hi : (P.info? t).map (·.size) = some cs'.size) (hs : cs.size = cs'.size) (h1 : cs'.all (·.oneCell') = true) (hK : wpList P ops Q rest (a.put o.dst undef) (w.setRow g cs')) : wpList P ops Q (o :: rest) a w :=
  wpList_plain hgd fun _ hK' => wp_store_row p v ho hp hv h hi hs h1 (hK' _ _ hK)
/-- A place of an array by value. -/
theorem run_index_row {n : Nat} {e : TypeId} (ht : P.underlying t = some (.array n e)) (hagg : ∀ W, (isAgg e).run P W = .ok false W) (hsz : ∀ W, (sizeOf e).run P W = .ok 1 W) {i : Nat} {v : Value} (hi : i < n) (hv : cs[i]? = some v) (W : World) :
    (Instr.index t (.agg cs) (.int .i64 (i : Int))).run P W = .ok v W := by
  simp [Instr.index, run_underlying ht, asIntOf, part, hagg, hsz, hv, hi, Result.andThen, Sem.run_bind]
theorem Blk.row (h : Blk w g t cs) (cs' : Array Value) : Blk (w.setRow g cs') g t cs' := setRow_heap w g cs cs' t (0, 0) h
theorem Blk.rowFar (h : Blk w g t cs) {k : Nat} (hk : g ≠ k) (cs' : Array Value) : Blk (w.setRow k cs') g t cs := (setRow_other w k g cs' hk).trans h
theorem Below.row {B : Nat} {w0 : World} (h : Below B w0 w) (hg : B ≤ g) (cs' : Array Value) : Below B w0 (w.setRow g cs') := by
  refine ⟨?_, ?_, ?_, ?_, ?_⟩
  all_goals first | exact h.os | exact h.tape | exact h.output | (rw [setRow_size]; exact h.size) | (intro i hi; exact (setRow_other w g i cs' (by omega)).trans (h.block i hi))
end
theorem results_cell {fn : Func} {p : Tmp} {ty : TypeId} (h : fn.results = #[.cell p ty]) (tmps : Array Value) (P : Program) (w : World) :
    (results fn tmps).run P w = ((asAddr (tmps.getD p undef)).run P w).andThen fun a w₁ => (loadVar ty a).run P w₁ := by
  simp only [results, h]
  simp [Sem.run_bind, Result.andThen]
end Go.Proofs.YtfpbijnlmlaloaaDoor
