/- Contract of chunk's Way: the second byte of a chunk in which none is nothing. -/
import Derived.Deep.QuietTactic
import Derived.BigQuiet
import Derived.Test.YthlfplljbbnaoaaGreatDoorCkAgain
namespace Go.Proofs.YthlfplljbbnaoaaGreatDoor
open Go.RowKit
set_option linter.unusedVariables false
set_option linter.unusedSimpArgs false
set_option maxRecDepth 100000

theorem way_any (A : Option Addr) (n c : Nat) (b : List Nat) (w : World) (hr : Reads w w.heap.size 1 A n (bs b)) (hb : ∀ x ∈ b, x < 256) (hn : n ≤ 140737488355300) :
    Calls Tryz.prog 16 #[.slice A n c] w fun e w' => e = .returned (.int .i64 (wyB b)) ∧ Below w.heap.size w w' := by
  have e1 : b.length = n := by have := hr.1; rw [bs_length] at this; omega
  by_cases h2 : n < 2
  · have hv : wyB b = -1 := by
      match b, e1 with
      | [], _ => rfl
      | [x], _ => cases x <;> rfl
      | _ :: _ :: _, e => simp at e; omega
    rw [hv]
    clear hv e1 hr
    go_enter Tryz.func16, Tryz.ntmps16
    go_wp2_with fail
    go_ret
    exact ⟨rfl, Below.refl _ _⟩
  · obtain ⟨bb, off, rfl, _, hc⟩ := hr.plain (by omega)
    obtain ⟨x, hx⟩ : ∃ x, b[0]? = some x := ⟨_, List.getElem?_eq_getElem (by omega)⟩
    obtain ⟨y, hy⟩ : ∃ y, b[1]? = some y := ⟨_, List.getElem?_eq_getElem (by omega)⟩
    have hc0 : w.cell? ⟨bb, off, none⟩ = some (.int .u8 (x : Int)) := hc 0 _ (by unfold bs; rw [List.getElem?_map, hx]; rfl)
    have hc1 : w.cell? ⟨bb, off + 1, none⟩ = some (.int .u8 (y : Int)) := hc 1 _ (by unfold bs; rw [List.getElem?_map, hy]; rfl)
    have d2 : decide ((n : Int) < 2) = false := by simp; omega
    have n0 : 0 < n := by omega
    have n1 : 1 < n := by omega
    have n0' : (0 : Int) < (n : Int) := by omega
    have n1' : (1 : Int) < (n : Int) := by omega
    have hy256 := hb y (List.mem_of_getElem? hy)
    have hx256 := hb x (List.mem_of_getElem? hx)
    have hwy : IntKind.i64.wrap (y : Int) = (y : Int) := IntWalk.i64_in _ (by omega)
    have hv : wyB b = if x = 0 then (y : Int) else -1 := by
      match b, e1, hx, hy with
      | [], e, _, _ => simp at e; omega
      | [_], e, _, _ => simp at e; omega
      | p :: q :: r, _, hx, hy =>
        simp at hx hy
        subst hx hy
        cases p with
        | zero => rfl
        | succ p => rfl
    by_cases h0 : x = 0
    · subst h0
      rw [if_pos rfl] at hv
      rw [hv]
      rw [show ((0 : Nat) : Int) = 0 from rfl] at hc0
      clear hv hx hy e1 hr hb hc h2
      go_enter Tryz.func16, Tryz.ntmps16
      go_wp2_with fail
      go_ret
      exact ⟨rfl, Below.refl _ _⟩
    · rw [if_neg h0] at hv
      rw [hv]
      have q : ((x : Int) != 0) = true := by simp [h0]
      clear hv hx hy e1 hr hb hc h0 h2
      go_enter Tryz.func16, Tryz.ntmps16
      go_wp2_with fail
      go_ret
      exact ⟨rfl, Below.refl _ _⟩
theorem wayC : WayC := fun A n c b W hr hb hn => way_any A n c b W hr hb hn
end Go.Proofs.YthlfplljbbnaoaaGreatDoor
