/- Texts joined: Mem Copied. -/
import Derived.Deep.QuietTactic
import Derived.BigQuiet
import Derived.Test.YtppeagjklndidaaDoorWords
import Derived.Test.YtppeagjklndidaaDoorChecked
import Derived.Test.YtppeagjklndidaaDoorJ2
/- Bytes in memory, over this program: a byte slice that is made; what a function answers that hands out new bytes. No condition. -/
namespace Go.Proofs.YtppeagjklndidaaDoor
open Go.RowKit
set_option linter.unusedVariables false
set_option linter.unusedSimpArgs false
set_option maxRecDepth 100000

theorem info_u8 : (Tryd.prog.info? 5).map (fun i => (i.zero, i.size, i.bytes)) = some (some (.int .u8 0), 1, 1) := by kernel_rfl
theorem run_make_u8 (c : Nat) (hc : c ≤ 281474976710656) (w : World) :
    (Instr.makeSlice 23 (.int .i64 0) (.int .i64 (c : Int))).run Tryd.prog w = .ok (.slice (some ⟨w.heap.size, 0, none⟩) 0 c) (w.alloc (.cells (madeCells #[.int .u8 0] c) 5)) := by
  obtain ⟨i, hi, hz0, hz1, hz2⟩ := info_parts info_u8
  have hr := run_make (P := Tryd.prog) w 23 5 i _ Tryd.underlying23 hi hz0 .i64 .i64 0 c (by omega) (by omega) (by rw [hz2]; omega) (by omega)
  rw [hz1] at hr
  simpa [Value.cells] using hr

/-- What a function answers that puts bytes behind bytes: new memory that holds 'xs'. -/
def New (w : World) (xs : List Value) (n : Nat) (e : Ending) (w' : World) : Prop := ∃ v, e = .returned v ∧ w'.ownsRow w.heap.size 5 1 v n xs ∧ Below w.heap.size w w'
/-- Bytes in new memory, and the number of an error. -/
def NewE (w : World) (l : List Nat) (x : Nat) (e : Ending) (w' : World) : Prop :=
  ∃ v, e = .returned (.tuple #[v, .int .i64 (x : Int)]) ∧ w'.ownsRow w.heap.size 5 1 v l.length (bs l) ∧ Below w.heap.size w w'
end Go.Proofs.YtppeagjklndidaaDoor

/- Contract of package num's copied: bytes in new memory. -/
namespace Go.Proofs.YtppeagjklndidaaDoor
open Go.RowKit
set_option linter.unusedVariables false
set_option linter.unusedSimpArgs false
set_option maxRecDepth 100000

theorem copied_any (A : Option Addr) (n c more : Nat) (xs : List Value) (w : World) (hr : Reads w w.heap.size 1 A n xs) (h1 : ∀ u ∈ xs, u.oneCell' = true) (hb : n + more ≤ 140737488355328) :
    Calls Tryd.prog 58 #[.slice A n c, .int .i64 (more : Int)] w fun e w' => ∃ v, e = .returned v ∧ w'.ownsRow w.heap.size 5 1 v n xs ∧ Below w.heap.size w w' := by
  obtain ⟨i0, hi0, hz0, hz1, hz2⟩ := info_parts info_u8
  have hmk : ∀ W : World, (Instr.makeSlice 23 (.int .i64 0) (.int .i64 ((n : Int) + (more : Int)))).run Tryd.prog W = .ok (.slice (some ⟨W.heap.size, 0, none⟩) 0 (n + more)) (W.alloc (.cells (madeCells #[.int .u8 0] (n + more)) 5)) := fun W => run_make_u8 (n + more) (by omega) W
  have hown0 : (w.alloc (.cells (madeCells #[.int .u8 0] (n + more)) 5)).ownsRow w.heap.size 5 1 (.slice (some ⟨w.heap.size, 0, none⟩) 0 (n + more)) 0 [] :=
    World.ownsRow_made w _ _ (Nat.le_refl _) (by unfold maxLen; omega) (by rw [size_madeCells]; omega)
  go_enter Tryd.func58, Tryd.ntmps58
  go_wp2_with (at_builtin
               refine wpList_append_any _ rfl (.tmp 9) (.tmp 10) _ rfl w.heap.size 5 i0 _ 1 1 Tryd.underlying23 hi0 hz0 hz1 hz2 rfl (by omega) (.slice (some ⟨w.heap.size, 0, none⟩) 0 (n + more)) 0 [] rfl
                 hown0 w.heap.size A n c xs rfl (hr.alloc (Nat.le_refl _) _) h1 (by unfold maxLen; omega) (by omega) (by simp) ?_
               intro v1 w1 hown1 hg1 hat1)
  go_ret
  exact ⟨v1, rfl, by simpa using hown1, ((Below.refl _ _).alloc (Nat.le_refl _) _).grown hg1 (by simp) (fun k hk => by simp [Value.ownBlock] at hk; omega)⟩
end Go.Proofs.YtppeagjklndidaaDoor
