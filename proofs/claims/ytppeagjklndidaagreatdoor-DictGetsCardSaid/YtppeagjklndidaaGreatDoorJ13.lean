/- Texts joined: I64Row SortZ Owned. -/
import Derived.Test.YtppeagjklndidaaGreatDoorJ2
import Derived.Test.YtppeagjklndidaaGreatDoorJ12
import Derived.Sort.OwnSortedInts
import Derived.RangeFuncOwn
import Derived.Test.YtppeagjklndidaaGreatDoorWords
/- Rows of int64 in memory, over this program: one that is made; what a function answers that hands out new ones with an error's number. No condition. -/
namespace Go.Proofs.YtppeagjklndidaaGreatDoor
open Go.RowKit
set_option linter.unusedVariables false
set_option linter.unusedSimpArgs false
set_option maxRecDepth 100000

theorem info_i64 : (Tryz.prog.info? 2).map (fun i => (i.zero, i.size, i.bytes)) = some (some (.int .i64 0), 1, 8) := by kernel_rfl
theorem run_make_i64 (n c : Nat) (hnc : n ≤ c) (hc : c ≤ 17592186044416) (w : World) :
    (Instr.makeSlice 24 (.int .i64 (n : Int)) (.int .i64 (c : Int))).run Tryz.prog w = .ok (.slice (some ⟨w.heap.size, 0, none⟩) n c) (w.alloc (.cells (madeCells #[.int .i64 0] c) 2)) := by
  obtain ⟨i, hi, hz0, hz1, hz2⟩ := info_parts info_i64
  have hr := run_make (P := Tryz.prog) w 24 2 i _ Tryz.underlying24 hi hz0 .i64 .i64 n c (by omega) (by omega) (by rw [hz2]; omega) (by omega)
  rw [hz1] at hr
  simpa [Value.cells] using hr
/-- What a function answers that hands out new numbers and an error's number. -/
def NewLE (w : World) (l : List Int) (x : Int) (e : Ending) (w' : World) : Prop :=
  ∃ v, e = .returned (.tuple #[v, .int .i64 x]) ∧ w'.ownsRow w.heap.size 2 1 v l.length (zs l) ∧ Below w.heap.size w w'
theorem NewLE.opened {w w' : World} {l : List Int} {x : Int} {e : Ending} (h : NewLE w l x e w') : ∃ A c, e = .returned (.tuple #[.slice A l.length c, .int .i64 x]) ∧ l.length ≤ c ∧ c ≤ maxLen ∧ Reads w' w'.heap.size 1 A l.length (zs l) ∧ Below w.heap.size w w' := by
  obtain ⟨v, rfl, hown, hb⟩ := h
  obtain ⟨A, c, rfl, hc, hm, hr⟩ := own_slice hown
  exact ⟨A, c, rfl, hc, hm, hr, hb⟩
theorem zs_get {l : List Int} {k : Nat} {z : Int} (h : l[k]? = some z) : (zs l)[k]? = some (.int .i64 z) := by unfold zs; rw [List.getElem?_map, h]; rfl
theorem zs_append (l m : List Int) : zs (l ++ m) = zs l ++ zs m := by simp [zs]
theorem zs_take (l : List Int) (k : Nat) : (zs l).take k = zs (l.take k) := by simp [zs]
theorem zs_one (l : List Int) : ∀ u ∈ zs l, u.oneCell' = true := by
  intro u hu
  obtain ⟨b, _, rfl⟩ := List.mem_map.1 hu
  rfl
theorem zs_snoc (l : List Int) (z : Int) : zs l ++ [Value.int .i64 z] = zs (l ++ [z]) := by simp [zs]
end Go.Proofs.YtppeagjklndidaaGreatDoor

/- Contract of the library's slices.Sort over a row of int64 of the call's own: the same slice owns its numbers, sorted. -/
namespace Go.Proofs.YtppeagjklndidaaGreatDoor
open Go.RowKit Go.Sort
set_option linter.unusedVariables false
set_option linter.unusedSimpArgs false
set_option maxRecDepth 100000

theorem sort_own (base n : Nat) (v : Value) (l : List Int) (w : World) (hown : w.ownsRow base 2 1 v n (zs l)) (hl : l.length = n) (hn : n < 4611686018427387904) :
    Calls Tryz.prog 53 #[v] w fun e w' => e = .returned (.tuple #[]) ∧ w'.ownsRow base 2 1 v n (zs (l.mergeSort fun x y => decide (x ≤ y))) ∧ w.grownBy w' v.ownBlock := by
  subst hl
  have hz : ∀ m : List Int, m.map (Value.int .i64) = zs m := fun m => rfl
  rcases hown.2 with ⟨rfl, hx⟩ | ⟨g, cap, cur, rfl, hbase, hb, h1, h2, h3, h4⟩
  · have hl0 : l = [] := by
      have := hown.1
      rw [hx] at this
      cases l with
      | nil => rfl
      | cons y m => simp [zs] at hx
    subst hl0
    refine (sort_none none 0 w).mono ?_
    rintro e w' ⟨rfl, rfl⟩
    exact ⟨rfl, by simpa [List.mergeSort] using hown, World.grownBy.refl _ _⟩
  · have h4' : cur.toList.take l.length = l.map (Value.int .i64) := by rw [hz]; simpa using h4
    refine (sort_row g 0 cap l w (holds_of_blockI hb h4') (Array.getElem?_eq_some_iff.1 hb).1 hn).mono ?_
    rintro e w' ⟨rfl, m, os, rfl⟩
    refine ⟨rfl, ?_, grownBy_sortedI _⟩
    rw [← hz]
    exact ownsRow_sortedI (by simp) hbase hb h1 h2 h3
end Go.Proofs.YtppeagjklndidaaGreatDoor

/- Rows of the call's own while other blocks change. No program. -/
namespace Go.Proofs.YtppeagjklndidaaGreatDoor
open Go.RowKit
set_option linter.unusedVariables false
set_option linter.unusedSimpArgs false
set_option maxRecDepth 100000

theorem own_kept {w w' : World} {base : Nat} {e : TypeId} {size n : Nat} {v : Value} {xs : List Value} {row : Option Nat} (h : w.ownsRow base e size v n xs) (hg : w.grownBy w' row)
    (hr : ∀ r, row = some r → ∃ o : Obj, w.heap[r]? = some o ∧ o.isCells = false) : w'.ownsRow base e size v n xs := by
  refine ⟨h.1, ?_⟩
  rcases h.2 with hn | ⟨g, cap, cur, rfl, h1, hgc, rest⟩
  · exact .inl hn
  · refine .inr ⟨g, cap, cur, rfl, h1, (hg.block g (Array.getElem?_eq_some_iff.1 hgc).1 (fun e => ?_)).trans hgc, rest⟩
    obtain ⟨o, ho, hc⟩ := hr g e.symm
    rw [hgc] at ho
    injection ho with ho
    subst ho
    cases hc
theorem own_before {w w' : World} {base : Nat} {e : TypeId} {size n : Nat} {v : Value} {xs : List Value} {row : Option Nat} (h : w.ownsRow base e size v n xs) (hg : w.grownBy w' row)
    (hr : ∀ r, row = some r → r < base) : w'.ownsRow base e size v n xs := by
  refine ⟨h.1, ?_⟩
  rcases h.2 with hn | ⟨g, cap, cur, rfl, h1, hgc, rest⟩
  · exact .inl hn
  · exact .inr ⟨g, cap, cur, rfl, h1, (hg.block g (Array.getElem?_eq_some_iff.1 hgc).1 (fun e => by have := hr g e.symm; omega)).trans hgc, rest⟩
theorem own_cells {w : World} {base : Nat} {e : TypeId} {size n : Nat} {v : Value} {xs : List Value} (h : w.ownsRow base e size v n xs) {g : Nat} (hg : v.ownBlock = some g) : base ≤ g ∧ ∀ o : Obj, w.heap[g]? = some o → o.isCells = true := by
  refine ⟨(h.lt g hg).1, fun o ho => ?_⟩
  rcases h.2 with ⟨rfl, _⟩ | ⟨g', cap, cur, rfl, h1, hgc, rest⟩
  · cases hg
  · have : g' = g := by simpa [Value.ownBlock] using hg
    subst this
    rw [hgc] at ho
    injection ho with ho
    subst ho
    rfl
end Go.Proofs.YtppeagjklndidaaGreatDoor
