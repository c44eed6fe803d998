/- Texts joined: Err Handle Ints. -/
import Derived.Test.YtppeagjklndidaaDoorRdE
import Derived.Test.YtppeagjklndidaaDoorErrChain
import Derived.Test.YtppeagjklndidaaDoorRows
import Derived.ChangeSame
import Derived.ChangeVars
import Derived.JoinedOf
import Derived.RowKit
import Derived.RowKitTokens
import Derived.LaidLaws
import Derived.LaidHandle
import Derived.Stop.Joined
import Derived.Test.YtppeagjklndidaaDoorWords
/- Contract of the Reader's Err: the error's number and its place, found by errors.As. -/
namespace Go.Proofs.YtppeagjklndidaaDoor
open Go.RowKit
set_option linter.unusedVariables false
set_option linter.unusedSimpArgs false
set_option maxRecDepth 100000

/-- The variable that errors.As asks for the type error. -/
def Met (w : World) : Prop := w.cell? ⟨0, 0, none⟩ = some (.iface 151 (.agg #[.pointer (some ⟨1, 90, none⟩)]))
theorem Met.next {w w' : World} (h : Met w) (hb : Below w.heap.size w w') : Met w' := (hb.cell (World.block_lt_of_cell? _ _ h)).trans h
/-- An error's number and place, as two results. -/
def Tells (k : Int) (on : Int) (e : Ending) : Prop := e = .returned (.tuple #[.int .i64 k, .int .i64 on])

theorem err_nil (w : World) : Calls Tryd.prog 51 #[.pointer none] w fun e w' => Tells 1 0 e ∧ Below w.heap.size w w' := by
  go_enter Tryd.func51, Tryd.ntmps51
  go_wp2_with fail
  refine bodyPost_ret (v := .tuple #[.int .i64 1, .int .i64 0]) (by simp [results, Tryd.results51, go_sem]) rfl ⟨rfl, ?_⟩
  exact (Below.refl _ _).alloc (Nat.le_refl _) _
theorem err_none {w : World} {g : Nat} {l : List Nat} {at_ : Nat} (h : RdS w g l at_ none) : Calls Tryd.prog 51 #[.pointer (some ⟨g, 0, none⟩)] w fun e w' => Tells 0 0 e ∧ Below w.heap.size w w' := by
  obtain ⟨A, n, c, err, hR, rfl⟩ := h
  have hc := ((hR.blk.alloc (.cells #[.int .i64 0] 25)).alloc (.cells #[.pointer none] 104)).cell 2
  simp only [List.getElem?_toArray, List.getElem?_cons_succ, List.getElem?_cons_zero] at hc
  go_enter Tryd.func51, Tryd.ntmps51
  go_wp2_with (go_at_call 70; refine (as_nil _ _).mono ?_; rintro e w1 ⟨rfl, rfl⟩)
  refine bodyPost_ret (v := .tuple #[.int .i64 0, .int .i64 0]) (by simp [results, Tryd.results51, go_sem]) rfl ⟨rfl, ?_⟩
  exact ((Below.refl _ _).alloc (Nat.le_refl _) _).alloc (by simp) _
set_option maxHeartbeats 1000000 in
theorem err_some {w : World} {g : Nat} {l : List Nat} {at_ : Nat} (k : Int) (on : Nat) (hm : Met w) (h : RdS w g l at_ (some (k, on))) :
    Calls Tryd.prog 51 #[.pointer (some ⟨g, 0, none⟩)] w fun e w' => Tells k (on : Int) e ∧ Below w.heap.size w w' := by
  obtain ⟨A, n, c, err, hR, f, rfl, hf⟩ := h
  have hb0 : Below w.heap.size w ((w.alloc (.cells #[.int .i64 0] 25)).alloc (.cells #[.pointer none] 104)) := ((Below.refl _ _).alloc (Nat.le_refl _) _).alloc (by simp) _
  have hc := (hR.blk.below hb0 hR.blk.lt).cell 2
  simp only [List.getElem?_toArray, List.getElem?_cons_succ, List.getElem?_cons_zero] at hc
  have hf0 := hf.below hb0 hf.lt
  have hm0 := hm.next hb0
  have hfl := hf.lt
  have hml : 0 < w.heap.size := World.block_lt_of_cell? _ _ hm
  have he0 : Blk ((w.alloc (.cells #[.int .i64 0] 25)).alloc (.cells #[.pointer none] 104)) w.heap.size 25 #[.int .i64 0] := (Blk.new w _ _).alloc _
  have hp0 : Blk ((w.alloc (.cells #[.int .i64 0] 25)).alloc (.cells #[.pointer none] 104)) (w.heap.size + 1) 104 #[.pointer none] := by
    have := Blk.new (w.alloc (.cells #[.int .i64 0] 25)) 104 #[.pointer none]
    simpa using this
  go_enter Tryd.func51, Tryd.ntmps51
  go_wp2_with fail
  refine (as_hit ⟨f, 0, none⟩ ⟨w.heap.size + 1, 0, none⟩ (.pointer none) _ hm0 (by rw [hp0.cell]; rfl) (hp0.frozen 0)).mono ?_
  rintro e w1 ⟨rfl, hg1, hc1, hz1⟩
  have hf1 := hf0.grown hg1 (by first | (simp; done) | (simp; omega))
  have he1 := he0.grown hg1 (by first | (simp; done) | (simp; omega))
  have hm1 : Met w1 := hg1.cell hm0 (by first | (simp; done) | (simp; omega))
  have hb1 : Below w.heap.size w w1 := hb0.grown hg1 (by simp; omega) (fun k hk => by simp at hk; omega)
  go_wp2_with fail
  refine (as_chain k ⟨w.heap.size, 0, none⟩ f (.int .i64 0) w1 hm1 (by rw [he1.cell]; rfl) (he1.frozen 0) (by rw [hf1.cell]; rfl)).mono ?_
  rintro e w2 ⟨rfl, hg2, hc2, hz2⟩
  have hp2 : w2.cell? ⟨w.heap.size + 1, 0, none⟩ = some (.pointer (some ⟨f, 0, none⟩)) := hg2.cell hc1 (by first | (simp; done) | (simp; omega))
  have hf2 : w2.cell? ⟨f, 0, none⟩ = some (.int .i64 (on : Int)) := by rw [(hf1.grown hg2 (by first | (simp; done) | (simp; omega))).cell]; rfl
  have hb2 : Below w.heap.size w w2 := hb1.grown hg2 hb1.size (fun k hk => by simp at hk; omega)
  clear hf0 hf1 hm0 hm1 he0 he1 hp0 hc hb0
  go_wp2_with fail
  go_region
  all_goals go_wp2_with fail
  all_goals
    refine bodyPost_ret (v := .tuple #[.int .i64 k, .int .i64 (on : Int)]) (by simp [results, Tryd.results51, go_sem, hc2]) rfl ⟨rfl, ?_⟩
  exact (hb2.setCell (Nat.le_refl _) _).drew

def errS (x : Option (Int × Nat)) : Int × Nat := x.getD (0, 0)
theorem err_is {w : World} {g : Nat} {l : List Nat} {at_ : Nat} {x : Option (Int × Nat)} (hm : Met w) (h : RdS w g l at_ x) :
    Calls Tryd.prog 51 #[.pointer (some ⟨g, 0, none⟩)] w fun e w' => Tells (errS x).1 ((errS x).2 : Int) e ∧ Below w.heap.size w w' := by
  cases x with
  | none => exact err_none h
  | some x => exact err_some x.1 x.2 hm h
end Go.Proofs.YtppeagjklndidaaDoor

/- The listed variable errors.errorType: from the row's condition to the variable's cell; a world that meets it. -/
namespace Go.Proofs.YtppeagjklndidaaDoor
open Go.ChangeShapes Go.WideShapes Go.RowKit
set_option maxRecDepth 100000

def laidErr : List (String × DataW Unit) := [("errors.errorType", Rows.laid_errors_errorType)]
theorem et_named : Tryd.prog.globalNamed "errors.errorType" = some 0 := by kernel_rfl
theorem rt_find : (Tryd.prog.cutTypes.find? (·.1 == "internal/reflectlite.rtype")).map (·.2) = some 151 := by kernel_rfl
theorem oneRow : ((List.range 196).filter fun t => Tryd.prog.rowNamed t [101, 114, 114, 111, 114]) = [90] := by kernel_rfl
theorem types_size : Tryd.prog.types.size = 196 := by kernel_rfl
theorem met_of_laid {W : World} (h : laidMetH Tryd.prog laidErr W) : Met W := by
  have h' : laidMet Tryd.prog [] W ∧ handlesMet Tryd.prog laidErr W := h
  obtain ⟨name, u, ty, e1, e2, e3, e4, e5⟩ := h'.2 _ (List.mem_singleton.2 rfl)
  have en : name = [101, 114, 114, 111, 114] := (Option.some.inj e1).symm
  subst en
  obtain rfl := Option.some.inj (rt_find.symm.trans e2)
  have hm : ty ∈ (List.range 196).filter fun t => Tryd.prog.rowNamed t [101, 114, 114, 111, 114] := List.mem_filter.2 ⟨List.mem_range.2 (by rw [← types_size]; exact e3), e4⟩
  rw [oneRow] at hm
  obtain rfl := List.mem_singleton.1 hm
  have hh : typeHandle Tryd.prog 90 = .pointer (some ⟨1, 90, none⟩) := by kernel_rfl
  rw [hh] at e5
  unfold Met
  simpa using World.var?_cell et_named e5 0

noncomputable def laidWorld (os : Os) : World :=
  let w0 := World.holding Tryd.prog os ⟨#[], #[], []⟩
  { w0 with heap := w0.heap.modify 0 fun
      | .cells _ t frozen => .cells #[.iface 151 (.agg #[.pointer (some ⟨1, 90, none⟩)])] t frozen
      | o => o }
theorem laidWorld_met (os : Os) (args : Array Value) : laidMetH Tryd.prog laidErr ((laidWorld os).forCall (fun _ _ => 0) ⟨#[], args, []⟩).memory :=
  laidMetH_of_parts (laidMet_nil _ _) (by kernel_rfl)
end Go.Proofs.YtppeagjklndidaaDoor

/- Numbers with a sign as values: lists of natural numbers, and of any, in memory. No program, no condition. -/
namespace Go.Proofs.YtppeagjklndidaaDoor
open Go.RowKit
set_option linter.unusedVariables false
set_option linter.unusedSimpArgs false
set_option maxRecDepth 100000

def ns (l : List Nat) : List Value := l.map fun b : Nat => Value.int .i64 (b : Int)
def zs (l : List Int) : List Value := l.map (Value.int .i64)
theorem ns_zs (l : List Nat) : ns l = zs (l.map fun b : Nat => (b : Int)) := by unfold ns zs; rw [List.map_map]; rfl
theorem zs_length (l : List Int) : (zs l).length = l.length := by simp [zs]
theorem ns_length (l : List Nat) : (ns l).length = l.length := by simp [ns]
theorem ns_append (l m : List Nat) : ns (l ++ m) = ns l ++ ns m := by simp [ns]
theorem zs_at {l : List Int} {k : Nat} {u : Value} (h : (zs l)[k]? = some u) : ∃ b, l[k]? = some b ∧ u = .int .i64 b := by
  unfold zs at h
  rw [List.getElem?_map] at h
  cases hb : l[k]? with
  | none => rw [hb] at h; cases h
  | some b => rw [hb] at h; injection h with h; exact ⟨b, rfl, h.symm⟩
theorem ns_at {l : List Nat} {k : Nat} {u : Value} (h : (ns l)[k]? = some u) : ∃ b, l[k]? = some b ∧ u = .int .i64 (b : Int) := by
  unfold ns at h
  rw [List.getElem?_map] at h
  cases hb : l[k]? with
  | none => rw [hb] at h; cases h
  | some b => rw [hb] at h; injection h with h; exact ⟨b, rfl, h.symm⟩
end Go.Proofs.YtppeagjklndidaaDoor
