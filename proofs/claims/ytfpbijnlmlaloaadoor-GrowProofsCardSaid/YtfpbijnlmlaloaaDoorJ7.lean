/- Texts joined: ShaWork ShaCard. -/
import Derived.Test.YtfpbijnlmlaloaaDoorShaWords
import Derived.Test.YtfpbijnlmlaloaaDoorRows
import Derived.Test.YtfpbijnlmlaloaaDoorJ2
import Derived.WalkKit
import Derived.ProofKit
import Derived.OpenShut
import Derived.Deep.DeepHandedRow
import Derived.Lib.LaidTab
import Derived.WideKeyArr2
/- A digest that is on its way, in memory: its state, what isn't a whole block yet, its size; the table in memory. No walk. -/
namespace Go.Proofs.YtfpbijnlmlaloaaDoor
open Go.RowKit
set_option linter.unusedVariables false
set_option linter.unusedSimpArgs false
set_option maxRecDepth 100000

/-- The package's table holds the document's words. -/
def ShTab (w : World) : Prop := ∀ i, i < 64 → w.cell? ⟨0, i, none⟩ = some (.int .u32 (tabK.getD i 0 : Int))
theorem ShTab.lt {w : World} (h : ShTab w) : 0 < w.heap.size := World.block_lt_of_cell? w ⟨0, 0, none⟩ (h 0 (by omega))
theorem ShTab.below {w w' : World} {B : Nat} (h : ShTab w) (hb : Below B w w') (hB : 0 < B) : ShTab w' := fun i hi => (hb.cell (p := ⟨0, i, none⟩) hB).trans (h i hi)
theorem ShTab.next {w w' : World} (h : ShTab w) (hb : Below w.heap.size w w') : ShTab w' := h.below hb h.lt
theorem ShTab.grown {w w' : World} {g : Nat} (h : ShTab w) (hg : w.grownBy w' (some g)) (hne : 0 ≠ g) : ShTab w' := fun i hi => hg.cell (h i hi) (by simpa using hne)
theorem ShTab.drewN {w : World} (h : ShTab w) (q : Nat) : ShTab (w.drewN q) := h
/-- The object's cells. -/
def workL (lv : List Nat) (o : Value) (n : Nat) : Array Value := (lv.map (fun x : Nat => Value.int .u32 (x : Int)) ++ [o, .int .u64 (n : Int)]).toArray
theorem workL_at {lv : List Nat} {o : Value} {n i x : Nat} (h : lv[i]? = some x) : (workL lv o n)[i]? = some (.int .u32 (x : Int)) := by
  have hi := (List.getElem?_eq_some_iff.1 h).1
  unfold workL
  rw [List.getElem?_toArray, List.getElem?_append_left (by simpa using hi), List.getElem?_map, h]
  rfl
theorem workL_open {lv : List Nat} {o : Value} {n : Nat} (h : lv.length = 8) : (workL lv o n)[8]? = some o := by
  unfold workL
  rw [List.getElem?_toArray, List.getElem?_append_right (by simp [h]), List.length_map, h]
  rfl
theorem workL_size {lv : List Nat} {o : Value} {n : Nat} (h : lv.length = 8) : (workL lv o n)[9]? = some (.int .u64 (n : Int)) := by
  unfold workL
  rw [List.getElem?_toArray, List.getElem?_append_right (by simp [h]), List.length_map, h]
  rfl
theorem workL_set {lv : List Nat} {o : Value} {n i : Nat} (x : Nat) (h : i < lv.length) : (workL lv o n).setIfInBounds i (.int .u32 (x : Int)) = workL (lv.set i x) o n := by
  unfold workL
  rw [List.setIfInBounds_toArray, List.set_append_left _ _ (by simpa using h), List.map_set]
theorem workL_setOpen {lv : List Nat} {o : Value} {n : Nat} (o' : Value) (h : lv.length = 8) : (workL lv o n).setIfInBounds 8 o' = workL lv o' n := by
  unfold workL
  rw [List.setIfInBounds_toArray, List.set_append_right _ _ (by simp [h]), List.length_map, h]
  rfl
theorem workL_setSize {lv : List Nat} {o : Value} {n : Nat} (n' : Nat) (h : lv.length = 8) : (workL lv o n).setIfInBounds 9 (.int .u64 (n' : Int)) = workL lv o n' := by
  unfold workL
  rw [List.setIfInBounds_toArray, List.set_append_right _ _ (by simp [h]), List.length_map, h]
  rfl
theorem list_length (s : S8) : s.list.length = 8 := rfl
/-- The state's sums, 'i' of them made. -/
def mixL (s r : S8) (i : Nat) : List Nat := (add8 s r).list.take i ++ s.list.drop i
theorem mixL_zero (s r : S8) : mixL s r 0 = s.list := rfl
theorem mixL_all (s r : S8) : mixL s r 8 = (add8 s r).list := rfl
attribute [irreducible] workL

theorem bg1_bits (x : Nat) (hx : x < 4294967296) : ∃ m : Nat, bits .xor .u32 (rot x 6 : Int) (rot x 11 : Int) = (m : Int) ∧ bits .xor .u32 (m : Int) (rot x 25 : Int) = (bg1 x : Int) :=
  ⟨rot x 6 ^^^ rot x 11, u32_xor_nat _ _ (rot_lt _ hx) (rot_lt _ hx), u32_xor_nat _ _ (xor_lt (rot_lt _ hx) (rot_lt _ hx)) (rot_lt _ hx)⟩
theorem bg0_bits (x : Nat) (hx : x < 4294967296) : ∃ m : Nat, bits .xor .u32 (rot x 2 : Int) (rot x 13 : Int) = (m : Int) ∧ bits .xor .u32 (m : Int) (rot x 22 : Int) = (bg0 x : Int) :=
  ⟨rot x 2 ^^^ rot x 13, u32_xor_nat _ _ (rot_lt _ hx) (rot_lt _ hx), u32_xor_nat _ _ (xor_lt (rot_lt _ hx) (rot_lt _ hx)) (rot_lt _ hx)⟩
theorem notS_u32 (s : Nat) (hs : s < 4294967296) : bits .xor .u32 IntKind.u32.max (s : Int) = ((4294967295 - s : Nat) : Int) := by
  have h : IntKind.u32.max = ((4294967295 : Nat) : Int) := rfl
  rw [h, u32_xor_nat 4294967295 s (by omega) hs]
  have h1 := congrArg BitVec.toNat (BitVec.xor_allOnes (x := BitVec.ofNat 32 s))
  rw [BitVec.toNat_xor, BitVec.toNat_not, BitVec.toNat_allOnes, BitVec.toNat_ofNat, Nat.mod_eq_of_lt (by omega)] at h1
  rw [Nat.xor_comm]
  exact congrArg Int.ofNat h1
theorem ch_bits (e f g : Nat) (he : e < 4294967296) (hf : f < 4294967296) (hg : g < 4294967296) : ∃ m n p : Nat, bits .and .u32 (e : Int) (f : Int) = (m : Int) ∧ bits .xor .u32 IntKind.u32.max (e : Int) = (n : Int) ∧ (4294967295 : Int) - (e : Int) = (n : Int) ∧ bits .and .u32 (n : Int) (g : Int) = (p : Int) ∧ bits .or .u32 (m : Int) (p : Int) = (ch e f g : Int) :=
  ⟨e &&& f, 4294967295 - e, (4294967295 - e) &&& g, u32_and_nat _ _ he hf, notS_u32 e he, by omega, u32_and_nat _ _ (by omega) hg, u32_or_nat _ _ (and_lt he) (and_lt (by omega))⟩
theorem maj_bits (a b c : Nat) (ha : a < 4294967296) (hb : b < 4294967296) (hc : c < 4294967296) : ∃ m n p q : Nat, bits .and .u32 (a : Int) (b : Int) = (m : Int) ∧ bits .and .u32 (a : Int) (c : Int) = (n : Int) ∧ bits .or .u32 (m : Int) (n : Int) = (p : Int) ∧ bits .and .u32 (b : Int) (c : Int) = (q : Int) ∧ bits .or .u32 (p : Int) (q : Int) = (maj a b c : Int) :=
  ⟨a &&& b, a &&& c, a &&& b ||| a &&& c, b &&& c, u32_and_nat _ _ ha hb, u32_and_nat _ _ ha hc, u32_or_nat _ _ (and_lt ha) (and_lt ha), u32_and_nat _ _ hb hc, u32_or_nat _ _ (or_lt (and_lt ha) (and_lt ha)) (and_lt hb)⟩
theorem quiet_wd0 {P : Program} {f : FuncId} {args : Array Value} {w : World} {n x : Nat} (h : Calls P f args (w.drewN n) (Wd (w.drewN n) x)) : Calls P f args (w.drewN n) fun e w'' => e = .returned (.int .u32 (x : Int)) ∧ ∃ m, w'' = w.drewN m :=
  h.mono fun _ _ ⟨he, hm⟩ => ⟨he, n, hm.symm⟩
theorem quiet_wd {P : Program} {f : FuncId} {args : Array Value} {w : World} {a n x : Nat} (h : Calls P f args (w.drewN (a + n)) (Wd (w.drewN (a + n)) x)) : Calls P f args (w.drewN (a + n)) fun e w'' => e = .returned (.int .u32 (x : Int)) ∧ ∃ m, w'' = w.drewN (a + m) :=
  h.mono fun _ _ ⟨he, hm⟩ => ⟨he, n, hm.symm⟩
end Go.Proofs.YtfpbijnlmlaloaaDoor

/- The listed variable sha.table: from the row's condition to its cells; a world that meets it; a digest that came in by value, opened. -/
namespace Go.Proofs.YtfpbijnlmlaloaaDoor
open Go.ChangeShapes Go.WideShapes Go.ChangeAt Go.RowKit Go.WideMaps
set_option linter.unusedVariables false
set_option linter.unusedSimpArgs false
set_option maxRecDepth 100000

theorem gTab : Tryd.prog.globalNamed "estreat/sha.table" = some 0 := by kernel_rfl
theorem gTabType : (Tryd.prog.globals[0]?).map (·.type) = some 73 := by kernel_rfl
theorem cellsTab : Tryd.prog.cellsOf 73 = 64 := by kernel_rfl
theorem cellsWord : Tryd.prog.cellsOf 59 = 1 := by kernel_rfl
theorem tab_of_laid {W : World} (h : laidMetH Tryd.prog [("estreat/sha.table", Rows.laid_estreat_sha_table)] W) : ShTab W := by
  have ht : Lib.TabIs Tryd.prog W "estreat/sha.table" .u32 (tabK.map fun x : Nat => (x : Int)) := Lib.tabIs_of_head (rest := []) gTab gTabType Tryd.underlying73 Tryd.underlying59 cellsWord cellsTab h
  intro i hi
  have := ht.cell gTab i (by rw [List.length_map, tabK_length]; exact hi)
  rw [this]
  congr 2
  rw [List.getD_eq_getElem?_getD, List.getD_eq_getElem?_getD, List.getElem?_map, List.getElem?_eq_getElem (by rw [tabK_length]; exact hi)]
  rfl
/-- A digest that came in by value. -/
theorem each_int {H : Type} {enc : TypeId × Value → H} {P : Program} {e : TypeId} {q : IntKind} {W : World} {base : Nat} {sp : Nat → Bool} {held : Bool} (he : P.underlying e = some (.int q)) {m : Nat} {cs : List Value} {c : Nat} : ∀ (L : List Nat) (xs : List (DataW H × List MemPlace)),
    L.mapM (fun i => DataW.trod enc P W base sp held m e ((cs.drop (i * c)).take c)) = some xs → ∀ i ∈ L, ∃ a, (cs.drop (i * c)).take c = [.int q a] ∧ (Lit.int q a).wf = true
  | [], xs, h => by intro i hi; cases hi
  | j :: L, xs, h => by
    rw [List.mapM_cons] at h
    simp only [bind, Option.bind_eq_some_iff, pure, Option.some.injEq] at h
    obtain ⟨y, hy, ys, hys, rfl⟩ := h
    obtain ⟨a, ea, _, wa⟩ := DataW.trod_int he hy
    intro i hi
    rcases List.mem_cons.1 hi with rfl | hi
    · exact ⟨a, ea, wa⟩
    · exact each_int he L ys hys i hi
theorem hash_of {H : Type} {enc : TypeId × Value → H} {W : World} {base : Nat} {v : Value} {d : DataW H} {p : List MemPlace} (hv : Value.okWide Tryd.prog W .any base 33 v) (h : DataW.Trod enc Tryd.prog W 0 (fun _ => true) true 33 v d p) :
    ∃ l : List Nat, v = .agg (bs l).toArray ∧ l.length = 32 ∧ ∀ b ∈ l, b < 256 := by
  have A : ArrKey Tryd.prog 33 5 32 := ⟨Tryd.underlying33, by kernel_rfl, by kernel_rfl, by kernel_rfl⟩
  obtain ⟨xs, rfl, hn⟩ := okWide_arr A hv
  obtain ⟨fuel, hf⟩ := h
  cases fuel with
  | zero => simp [DataW.trod] at hf
  | succ m =>
    rw [DataW.trod_step] at hf
    unfold DataW.trodStep at hf
    simp only [A.hu, Value.cells] at hf
    rw [if_pos (by rw [A.size]; simpa using hn)] at hf
    simp only [Option.map_eq_some_iff] at hf
    obtain ⟨ys, hy, _⟩ := hf
    have hall := each_int Tryd.underlying5 _ ys hy
    have hex : ∀ i, ∃ b : Nat, i < 32 → xs.toList[i]? = some (.int .u8 (b : Int)) ∧ b < 256 := by
      intro i
      by_cases hi : i < 32
      · obtain ⟨a, ha, wa⟩ := hall i (by simpa using hi)
        obtain ⟨b, rfl, hb⟩ := u8_of wa
        refine ⟨b, fun _ => ⟨?_, hb⟩⟩
        rw [A.one, Nat.mul_one] at ha
        have := congrArg (fun z => z[0]?) ha
        simpa [List.getElem?_take, List.getElem?_drop] using this
      · exact ⟨0, fun h => absurd h hi⟩
    obtain ⟨f, hfn⟩ := Classical.axiomOfChoice hex
    refine ⟨(List.range 32).map f, ?_, by simp, ?_⟩
    · congr 1
      apply Array.ext'
      apply List.ext_getElem?
      intro i
      by_cases hi : i < 32
      · rw [(hfn i hi).1]
        simp [bs, List.getElem?_map, List.getElem?_range hi]
      · rw [List.getElem?_eq_none (by simp; omega), List.getElem?_eq_none (by simp [bs]; omega)]
    · intro b hb
      obtain ⟨i, hi, rfl⟩ := List.mem_map.1 hb
      exact (hfn i (by simpa using hi)).2
/-- A world that meets the row's list. -/
noncomputable def laidWorldT (os : Os) : World :=
  { World.holding Tryd.prog os ⟨#[], #[], []⟩ with heap := (World.holding Tryd.prog os ⟨#[], #[], []⟩).heap.modify 0 fun
      | .cells _ t frozen => .cells #[.int .u32 1116352408, .int .u32 1899447441, .int .u32 3049323471, .int .u32 3921009573, .int .u32 961987163, .int .u32 1508970993, .int .u32 2453635748, .int .u32 2870763221, .int .u32 3624381080, .int .u32 310598401, .int .u32 607225278, .int .u32 1426881987, .int .u32 1925078388, .int .u32 2162078206, .int .u32 2614888103, .int .u32 3248222580, .int .u32 3835390401, .int .u32 4022224774, .int .u32 264347078, .int .u32 604807628, .int .u32 770255983, .int .u32 1249150122, .int .u32 1555081692, .int .u32 1996064986, .int .u32 2554220882, .int .u32 2821834349, .int .u32 2952996808, .int .u32 3210313671, .int .u32 3336571891, .int .u32 3584528711, .int .u32 113926993, .int .u32 338241895, .int .u32 666307205, .int .u32 773529912, .int .u32 1294757372, .int .u32 1396182291, .int .u32 1695183700, .int .u32 1986661051, .int .u32 2177026350, .int .u32 2456956037, .int .u32 2730485921, .int .u32 2820302411, .int .u32 3259730800, .int .u32 3345764771, .int .u32 3516065817, .int .u32 3600352804, .int .u32 4094571909, .int .u32 275423344, .int .u32 430227734, .int .u32 506948616, .int .u32 659060556, .int .u32 883997877, .int .u32 958139571, .int .u32 1322822218, .int .u32 1537002063, .int .u32 1747873779, .int .u32 1955562222, .int .u32 2024104815, .int .u32 2227730452, .int .u32 2361852424, .int .u32 2428436474, .int .u32 2756734187, .int .u32 3204031479, .int .u32 3329325298] t frozen
      | o => o }
end Go.Proofs.YtfpbijnlmlaloaaDoor
