/- What a function that tells truths that may be answers, and Refutes, and the law's example, as contracts; the law's small. -/
import Derived.BigQuiet
import Derived.Deep.QuietTactic
import Derived.Lib.QuietBelow
import Derived.Deep.DeepCutAuto
import Derived.Deep.RegionLaw
import Derived.Deep.CutBlock
import Derived.Test.YtmjpjllbfgkfbaaDoorZnSize
import Derived.Test.YtmjpjllbfgkfbaaDoorJ4
import Derived.Test.YtmjpjllbfgkfbaaDoorJ3
namespace Go.Proofs.YtmjpjllbfgkfbaaDoor
open Go.RowKit
set_option linter.unusedVariables false
set_option linter.unusedSimpArgs false
set_option maxRecDepth 100000

/-- Truths that may be, handed over. -/
def tW (t : Tr3) : Value := .agg #[.bool t.1, .bool t.2.1, .bool t.2.2]
/-- A function answers which truths may be, of what the law looks at, from a world on. -/
def MayC (w0 : World) (F : FuncId) : Prop := ∀ (W : World), Below w0.heap.size w0 W → ∀ (f : Nat) (P : Nat → Prop) (c0 c1 c2 c3 : Value) (p : Pd) (rows : Int) (A : Option Addr) (n c : Nat) (zl : List Zn), IsP f W P [c0, c1, c2, c3] p → (∀ k, WfP k p) → szP 400 40 p ≤ 400 → Reads W W.heap.size 8 A n (zcs zl) → n ≤ 100 → In64 rows →
  Calls Tryd.prog F #[.agg #[c0, c1, c2, c3], .int .i64 rows, .slice A n c] W fun e w' => e = .returned (tW (mayP rows zl p)) ∧ Below W.heap.size W w'
/-- The program's Refutes: True may not be. -/
def RefuC (w0 : World) : Prop := ∀ (W : World), Below w0.heap.size w0 W → ∀ (f : Nat) (P : Nat → Prop) (c0 c1 c2 c3 : Value) (p : Pd) (rows : Int) (A : Option Addr) (n c : Nat) (zl : List Zn), IsP f W P [c0, c1, c2, c3] p → (∀ k, WfP k p) → szP 400 40 p ≤ 400 → Reads W W.heap.size 8 A n (zcs zl) → n ≤ 100 → In64 rows →
  Calls Tryd.prog 13 #[.agg #[c0, c1, c2, c3], .int .i64 rows, .slice A n c] W fun e w' => e = .returned (.bool (!(mayP rows zl p).2.2)) ∧ Below W.heap.size W w'
/-- The law's example holds. -/
def AwakeZC (w0 : World) : Prop := ∀ W : World, Below w0.heap.size w0 W → Calls Tryd.prog 7 #[] W fun e w' => e = .returned (.bool true) ∧ Below W.heap.size W w'
theorem small_any {M : Nat} (hM : (M : Int) ≤ 4611686018427387904) {w : World} {f : Nat} {P : Nat → Prop} {c0 c1 c2 c3 : Value} {p : Pd} (hI : IsP f w P [c0, c1, c2, c3] p) (hl : ∀ k, LenP M k p) :
    Calls Tryd.prog 4 #[.agg #[c0, c1, c2, c3]] w fun e w' => e = .returned (.bool (decide (szP 400 40 p ≤ 400))) ∧ Below w.heap.size w w' := by
  have HB : Hid (∀ o, Below w.heap.size w (w.alloc o)) := Lib.hid fun o => (Below.refl _ _).alloc (Nat.le_refl _) o
  have HS := Lib.hid fun (W : World) (hb : Below w.heap.size w W) => refSize_any hM 400 (by omega) (by omega) 40 (by omega) W f P c0 c1 c2 c3 p (hI.next hb) hl
  obtain ⟨s, hs⟩ : ∃ s, szP 400 40 p = s := ⟨_, rfl⟩
  rw [hs] at HS ⊢
  have h4 := hI.four.2
  have f0 := h4 c0 (by simp); have f1 := h4 c1 (by simp); have f2 := h4 c2 (by simp); have f3 := h4 c3 (by simp)
  clear hs hI hl h4
  go_enter Tryd.func4, Tryd.ntmps4
  go_wp2_with fail
  refine (HS.out _ (HB.out _)).mono ?_
  rintro e w1 ⟨rfl, hb⟩
  go_wp2_with fail
  go_ret
  exact ⟨rfl, (HB.out _).trans (hb.mono (HB.out _).size)⟩
end Go.Proofs.YtmjpjllbfgkfbaaDoor
