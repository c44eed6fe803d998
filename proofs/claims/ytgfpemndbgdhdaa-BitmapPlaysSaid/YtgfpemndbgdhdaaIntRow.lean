/- Numbers of kind int in memory: lists of natural numbers, and of any, as values. No condition. -/
import Derived.Test.YtgfpemndbgdhdaaMem
namespace Go.Proofs.Ytgfpemndbgdhdaa
open Go.RowKit
set_option linter.unusedVariables false
set_option linter.unusedSimpArgs false
set_option maxRecDepth 100000

def ns (l : List Nat) : List Value := l.map fun b : Nat => Value.int .i64 (b : Int)
def zs (l : List Int) : List Value := l.map (Value.int .i64)
theorem ns_zs (l : List Nat) : ns l = zs (l.map fun b : Nat => (b : Int)) := by unfold ns zs; rw [List.map_map]; rfl
theorem zs_length (l : List Int) : (zs l).length = l.length := by simp [zs]
theorem ns_length (l : List Nat) : (ns l).length = l.length := by simp [ns]
theorem ns_append (l m : List Nat) : ns (l ++ m) = ns l ++ ns m := by simp [ns]
theorem zs_at {l : List Int} {k : Nat} {u : Value} (h : (zs l)[k]? = some u) : ∃ b, l[k]? = some b ∧ u = .int .i64 b := by
  unfold zs at h
  rw [List.getElem?_map] at h
  cases hb : l[k]? with
  | none => rw [hb] at h; cases h
  | some b => rw [hb] at h; injection h with h; exact ⟨b, rfl, h.symm⟩
theorem ns_at {l : List Nat} {k : Nat} {u : Value} (h : (ns l)[k]? = some u) : ∃ b, l[k]? = some b ∧ u = .int .i64 (b : Int) := by
  unfold ns at h
  rw [List.getElem?_map] at h
  cases hb : l[k]? with
  | none => rw [hb] at h; cases h
  | some b => rw [hb] at h; injection h with h; exact ⟨b, rfl, h.symm⟩
theorem info_int : (Try.prog.info? 3).map (fun i => (i.zero, i.size, i.bytes)) = some (some (.int .i64 0), 1, 8) := by kernel_rfl
theorem run_make_int (n c : Nat) (hnc : n ≤ c) (hc : c ≤ 35184372088832) (w : World) :
    (Instr.makeSlice 22 (.int .i64 (n : Int)) (.int .i64 (c : Int))).run Try.prog w = .ok (.slice (some ⟨w.heap.size, 0, none⟩) n c) (w.alloc (.cells (madeCells #[.int .i64 0] c) 3)) := by
  obtain ⟨i, hi, hz0, hz1, hz2⟩ := info_parts info_int
  have hr := run_make (P := Try.prog) w 22 3 i _ Try.underlying22 hi hz0 .i64 .i64 n c (by omega) (by omega) (by rw [hz2]; omega) (by omega)
  rw [hz1] at hr
  simpa [Value.cells] using hr
/-- What a function answers that hands out new numbers: new memory that holds them. -/
def NewI (w : World) (l : List Nat) (e : Ending) (w' : World) : Prop := ∃ v, e = .returned v ∧ w'.ownsRow w.heap.size 3 1 v l.length (ns l) ∧ Below w.heap.size w w'
end Go.Proofs.Ytgfpemndbgdhdaa
