/- Texts joined: ShaInfo ShaEql TrAbc. -/
import Derived.Test.YtfpbijnlmlaloaaDoorJ2
import Derived.Laws.StructEq
import Derived.Test.YtfpbijnlmlaloaaDoorTrPlain
import Derived.Test.YtfpbijnlmlaloaaDoorJ9
/- What a digest's type is. No condition. -/
namespace Go.Proofs.YtfpbijnlmlaloaaDoor
open Go.RowKit
set_option linter.unusedVariables false
set_option linter.unusedSimpArgs false
set_option maxRecDepth 100000

theorem info_hash : (Tryd.prog.info? 33).map (fun i => (i.zero, i.size)) = some (some (.agg (Array.replicate 32 (.int .u8 0))), 32) := by kernel_rfl
theorem agg_u8 (W : World) : (isAgg 5).run Tryd.prog W = .ok false W := by simp [isAgg, run_underlying Tryd.underlying5]
theorem sizeS_u8 (W : World) : (Go.sizeOf 5).run Tryd.prog W = .ok 1 W := by
  obtain ⟨i0, hi0, hz0, hz1, hz2⟩ := info_parts info_u8
  simp [Go.sizeOf, typeInfo, hi0, hz1]
end Go.Proofs.YtfpbijnlmlaloaaDoor

/- Two digests by value are compared. -/
namespace Go.Proofs.YtfpbijnlmlaloaaDoor
open Go.RowKit
set_option linter.unusedVariables false
set_option linter.unusedSimpArgs false
set_option maxRecDepth 100000

theorem run_forIn_all {P : Program} {α : Type} (f : Nat → Option α × Unit → Sem (ForInStep (Option α × Unit))) (q : Nat → Bool) (r : α) :
    ∀ (is : List Nat) (w : World), (∀ i ∈ is, ∀ W, (f i (none, ())).run P W = .ok (if q i then .yield (none, ()) else .done (some r, ())) W) →
      (forIn is (none, ()) f).run P w = .ok (if is.all q then (none, ()) else (some r, ())) w := by
  intro is
  induction is with
  | nil => intro w _; simp [Sem.run_pure]
  | cons i is ih =>
    intro w h
    have h1 := h i (by simp) w
    have h2 := ih w (fun j hj => h j (by simp [hj]))
    rw [List.forIn_cons, Sem.run_bind, h1]
    by_cases hq : q i = true
    · simp only [hq, if_true, Result.andThen_ok, List.all_cons, Bool.true_and]
      exact h2
    · simp only [Bool.not_eq_true] at hq
      simp [hq, Sem.run_pure]
theorem run_eql_bytes {P : Program} (w : World) (t e : TypeId) (n : Nat) (ht : P.underlying t = some (.array n e)) (he : P.underlying e = some (.int .u8)) (hs : ∀ W, (Go.sizeOf e).run P W = .ok 1 W) (ha : ∀ W, (isAgg e).run P W = .ok false W) (d : Nat) (l m : List Nat) (hl : l.length = n) (hm : m.length = n) :
    (Op.equalIn (d + 2) t (.agg (bs l).toArray) (.agg (bs m).toArray)).run P w = .ok (decide (l = m)) w := by
  obtain ⟨k, hk⟩ : ∃ k, k = d + 1 := ⟨_, rfl⟩
  rw [show d + 2 = k + 1 by omega]
  simp only [Op.equalIn, Sem.run_bind, run_underlying ht, Result.andThen_ok, hs, Nat.mul_one]
  have hp : ∀ (x : List Nat) (i b : Nat) (W : World), x[i]? = some b → (part e (bs x).toArray i).run P W = .ok (.int .u8 (b : Int)) W := by
    intro x i b W hx
    have h1 : (bs x).toArray[i]? = some (.int .u8 (b : Int)) := by rw [List.getElem?_toArray]; unfold bs; rw [List.getElem?_map, hx]; rfl
    simp [part, ha, h1, Sem.run_bind]
  simp only [Std.Legacy.Range.forIn_eq_forIn_range']
  rw [run_forIn_all (P := P) _ (fun i => decide (l.getD i 0 = m.getD i 0)) false]
  · by_cases h : l = m
    · subst h
      have hall : (List.range' 0 [:n].size).all (fun i => decide (l.getD i 0 = l.getD i 0)) = true := by simp
      rw [hall]
      simp [Sem.run_pure]
    · have hall : (List.range' 0 [:n].size).all (fun i => decide (l.getD i 0 = m.getD i 0)) = false := by
        rw [Bool.eq_false_iff]
        intro hc
        rw [List.all_eq_true] at hc
        refine h (List.ext_getElem (by omega) fun i h1 h2 => ?_)
        have := hc i (by simp [Std.Legacy.Range.size]; omega)
        simpa [List.getD_eq_getElem?_getD, List.getElem?_eq_getElem h1, List.getElem?_eq_getElem h2] using this
      rw [hall]
      simp [h, Sem.run_pure]
  · intro i hi W
    have hin : i < n := by
      simp [Std.Legacy.Range.size] at hi
      omega
    obtain ⟨b, hb⟩ : ∃ b, l[i]? = some b := ⟨_, List.getElem?_eq_getElem (by omega)⟩
    obtain ⟨c, hc⟩ : ∃ c, m[i]? = some c := ⟨_, List.getElem?_eq_getElem (by omega)⟩
    subst hk
    have hq := run_equalIn_int (P := P) W d e .u8 .u8 (b : Int) (c : Int) he
    simp only [Sem.run_bind, hp l i b _ hb, hp m i c _ hc, Result.andThen_ok, hq, List.getD_eq_getElem?_getD, hb, hc, Option.getD_some]
    by_cases h : b = c
    · subst h
      simp [Sem.run_pure]
    · have h2 : ((b : Int) == (c : Int)) = false := by simp; omega
      simp [h2, h, Sem.run_pure]
theorem eql_hash (w : World) (l m : List Nat) (hl : l.length = 32) (hm : m.length = 32) : (binOp .eql 33 (.agg (bs l).toArray) (.agg (bs m).toArray)).run Tryd.prog w = .ok (.bool (decide (l = m))) w := by
  have h := run_eql_bytes (P := Tryd.prog) w 33 5 32 Tryd.underlying33 Tryd.underlying5 sizeS_u8 agg_u8 9998 l m hl hm
  rw [run_eql_struct, h]
  rfl
end Go.Proofs.YtfpbijnlmlaloaaDoor

/- The root of three leaves, and that two leaves are unlike. No program but for names; no condition. -/
namespace Go.Proofs.YtfpbijnlmlaloaaDoor
open Go.RowKit
set_option linter.unusedVariables false
set_option linter.unusedSimpArgs false
set_option maxRecDepth 100000

theorem spl_two : spl 2 = 1 := spl_is (e := 0) (by decide) (by decide)
theorem spl_three : spl 3 = 2 := spl_is (e := 1) (by decide) (by decide)
theorem root_abc (a b c : List Nat) : rootL [a, b, c] = nodeD (nodeD (leafD a) (leafD b)) (leafD c) := by
  rw [rootL_two (by simp), show [a, b, c].length = 3 from rfl, spl_three, show [a, b, c].take 2 = [a, b] from rfl, show [a, b, c].drop 2 = [c] from rfl, rootL_one, rootL_two (l := [a, b]) (by simp), show [a, b].length = 2 from rfl, spl_two, show [a, b].take 1 = [a] from rfl, show [a, b].drop 1 = [b] from rfl, rootL_one, rootL_one]
theorem leaf_unlike : leafD [97] ≠ leafD [98] := by decide +kernel
theorem eqlD (w : World) (l m : List Nat) (hl : l.length = 32) (hm : m.length = 32) : (binOp .eql 33 (.agg (bs l).toArray) (.agg (bs m).toArray)).run Tryd.prog w = .ok (.bool (decide (l = m))) w := eql_hash w l m hl hm
end Go.Proofs.YtfpbijnlmlaloaaDoor
