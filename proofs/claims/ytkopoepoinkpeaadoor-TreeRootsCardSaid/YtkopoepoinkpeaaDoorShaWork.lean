/- A digest that is on its way, in memory: its state, what isn't a whole block yet, its size; the table in memory. No walk. -/
import Derived.Test.YtkopoepoinkpeaaDoorShaWords
namespace Go.Proofs.YtkopoepoinkpeaaDoor
open Go.RowKit
set_option linter.unusedVariables false
set_option linter.unusedSimpArgs false
set_option maxRecDepth 100000

/-- The package's table holds the document's words. -/
def ShTab (w : World) : Prop := ∀ i, i < 64 → w.cell? ⟨0, i, none⟩ = some (.int .u32 (tabK.getD i 0 : Int))
theorem ShTab.lt {w : World} (h : ShTab w) : 0 < w.heap.size := World.block_lt_of_cell? w ⟨0, 0, none⟩ (h 0 (by omega))
theorem ShTab.below {w w' : World} {B : Nat} (h : ShTab w) (hb : Below B w w') (hB : 0 < B) : ShTab w' := fun i hi => (hb.cell (p := ⟨0, i, none⟩) hB).trans (h i hi)
theorem ShTab.next {w w' : World} (h : ShTab w) (hb : Below w.heap.size w w') : ShTab w' := h.below hb h.lt
theorem ShTab.grown {w w' : World} {g : Nat} (h : ShTab w) (hg : w.grownBy w' (some g)) (hne : 0 ≠ g) : ShTab w' := fun i hi => hg.cell (h i hi) (by simpa using hne)
theorem ShTab.drewN {w : World} (h : ShTab w) (q : Nat) : ShTab (w.drewN q) := h
/-- The object's cells. -/
def workL (lv : List Nat) (o : Value) (n : Nat) : Array Value := (lv.map (fun x : Nat => Value.int .u32 (x : Int)) ++ [o, .int .u64 (n : Int)]).toArray
theorem workL_at {lv : List Nat} {o : Value} {n i x : Nat} (h : lv[i]? = some x) : (workL lv o n)[i]? = some (.int .u32 (x : Int)) := by
  have hi := (List.getElem?_eq_some_iff.1 h).1
  unfold workL
  rw [List.getElem?_toArray, List.getElem?_append_left (by simpa using hi), List.getElem?_map, h]
  rfl
theorem workL_open {lv : List Nat} {o : Value} {n : Nat} (h : lv.length = 8) : (workL lv o n)[8]? = some o := by
  unfold workL
  rw [List.getElem?_toArray, List.getElem?_append_right (by simp [h]), List.length_map, h]
  rfl
theorem workL_size {lv : List Nat} {o : Value} {n : Nat} (h : lv.length = 8) : (workL lv o n)[9]? = some (.int .u64 (n : Int)) := by
  unfold workL
  rw [List.getElem?_toArray, List.getElem?_append_right (by simp [h]), List.length_map, h]
  rfl
theorem workL_set {lv : List Nat} {o : Value} {n i : Nat} (x : Nat) (h : i < lv.length) : (workL lv o n).setIfInBounds i (.int .u32 (x : Int)) = workL (lv.set i x) o n := by
  unfold workL
  rw [List.setIfInBounds_toArray, List.set_append_left _ _ (by simpa using h), List.map_set]
theorem workL_setOpen {lv : List Nat} {o : Value} {n : Nat} (o' : Value) (h : lv.length = 8) : (workL lv o n).setIfInBounds 8 o' = workL lv o' n := by
  unfold workL
  rw [List.setIfInBounds_toArray, List.set_append_right _ _ (by simp [h]), List.length_map, h]
  rfl
theorem workL_setSize {lv : List Nat} {o : Value} {n : Nat} (n' : Nat) (h : lv.length = 8) : (workL lv o n).setIfInBounds 9 (.int .u64 (n' : Int)) = workL lv o n' := by
  unfold workL
  rw [List.setIfInBounds_toArray, List.set_append_right _ _ (by simp [h]), List.length_map, h]
  rfl
theorem list_length (s : S8) : s.list.length = 8 := rfl
/-- The state's sums, 'i' of them made. -/
def mixL (s r : S8) (i : Nat) : List Nat := (add8 s r).list.take i ++ s.list.drop i
theorem mixL_zero (s r : S8) : mixL s r 0 = s.list := rfl
theorem mixL_all (s r : S8) : mixL s r 8 = (add8 s r).list := rfl
attribute [irreducible] workL

theorem bg1_bits (x : Nat) (hx : x < 4294967296) : ∃ m : Nat, bits .xor .u32 (rot x 6 : Int) (rot x 11 : Int) = (m : Int) ∧ bits .xor .u32 (m : Int) (rot x 25 : Int) = (bg1 x : Int) :=
  ⟨rot x 6 ^^^ rot x 11, u32_xor_nat _ _ (rot_lt _ hx) (rot_lt _ hx), u32_xor_nat _ _ (xor_lt (rot_lt _ hx) (rot_lt _ hx)) (rot_lt _ hx)⟩
theorem bg0_bits (x : Nat) (hx : x < 4294967296) : ∃ m : Nat, bits .xor .u32 (rot x 2 : Int) (rot x 13 : Int) = (m : Int) ∧ bits .xor .u32 (m : Int) (rot x 22 : Int) = (bg0 x : Int) :=
  ⟨rot x 2 ^^^ rot x 13, u32_xor_nat _ _ (rot_lt _ hx) (rot_lt _ hx), u32_xor_nat _ _ (xor_lt (rot_lt _ hx) (rot_lt _ hx)) (rot_lt _ hx)⟩
theorem notS_u32 (s : Nat) (hs : s < 4294967296) : bits .xor .u32 IntKind.u32.max (s : Int) = ((4294967295 - s : Nat) : Int) := by
  have h : IntKind.u32.max = ((4294967295 : Nat) : Int) := rfl
  rw [h, u32_xor_nat 4294967295 s (by omega) hs]
  have h1 := congrArg BitVec.toNat (BitVec.xor_allOnes (x := BitVec.ofNat 32 s))
  rw [BitVec.toNat_xor, BitVec.toNat_not, BitVec.toNat_allOnes, BitVec.toNat_ofNat, Nat.mod_eq_of_lt (by omega)] at h1
  rw [Nat.xor_comm]
  exact congrArg Int.ofNat h1
theorem ch_bits (e f g : Nat) (he : e < 4294967296) (hf : f < 4294967296) (hg : g < 4294967296) : ∃ m n p : Nat, bits .and .u32 (e : Int) (f : Int) = (m : Int) ∧ bits .xor .u32 IntKind.u32.max (e : Int) = (n : Int) ∧ (4294967295 : Int) - (e : Int) = (n : Int) ∧ bits .and .u32 (n : Int) (g : Int) = (p : Int) ∧ bits .or .u32 (m : Int) (p : Int) = (ch e f g : Int) :=
  ⟨e &&& f, 4294967295 - e, (4294967295 - e) &&& g, u32_and_nat _ _ he hf, notS_u32 e he, by omega, u32_and_nat _ _ (by omega) hg, u32_or_nat _ _ (and_lt he) (and_lt (by omega))⟩
theorem maj_bits (a b c : Nat) (ha : a < 4294967296) (hb : b < 4294967296) (hc : c < 4294967296) : ∃ m n p q : Nat, bits .and .u32 (a : Int) (b : Int) = (m : Int) ∧ bits .and .u32 (a : Int) (c : Int) = (n : Int) ∧ bits .or .u32 (m : Int) (n : Int) = (p : Int) ∧ bits .and .u32 (b : Int) (c : Int) = (q : Int) ∧ bits .or .u32 (p : Int) (q : Int) = (maj a b c : Int) :=
  ⟨a &&& b, a &&& c, a &&& b ||| a &&& c, b &&& c, u32_and_nat _ _ ha hb, u32_and_nat _ _ ha hc, u32_or_nat _ _ (and_lt ha) (and_lt ha), u32_and_nat _ _ hb hc, u32_or_nat _ _ (or_lt (and_lt ha) (and_lt ha)) (and_lt hb)⟩
theorem quiet_wd0 {P : Program} {f : FuncId} {args : Array Value} {w : World} {n x : Nat} (h : Calls P f args (w.drewN n) (Wd (w.drewN n) x)) : Calls P f args (w.drewN n) fun e w'' => e = .returned (.int .u32 (x : Int)) ∧ ∃ m, w'' = w.drewN m :=
  h.mono fun _ _ ⟨he, hm⟩ => ⟨he, n, hm.symm⟩
theorem quiet_wd {P : Program} {f : FuncId} {args : Array Value} {w : World} {a n x : Nat} (h : Calls P f args (w.drewN (a + n)) (Wd (w.drewN (a + n)) x)) : Calls P f args (w.drewN (a + n)) fun e w'' => e = .returned (.int .u32 (x : Int)) ∧ ∃ m, w'' = w.drewN (a + m) :=
  h.mono fun _ _ ⟨he, hm⟩ => ⟨he, n, hm.symm⟩
end Go.Proofs.YtkopoepoinkpeaaDoor
