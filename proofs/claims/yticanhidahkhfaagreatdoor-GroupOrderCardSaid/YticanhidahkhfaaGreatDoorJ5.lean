import Derived.Test.YticanhidahkhfaaGreatDoorJ4
import Derived.Test.YticanhidahkhfaaGreatDoorRows
import Derived.Test.YticanhidahkhfaaGreatDoorJ1
import Derived.WalkKit
import Derived.ProofKit
import Derived.OpenShut
import Derived.Deep.DeepHandedRow
import Derived.Lib.LaidTab
import Derived.WideKeyArr2
import Derived.Test.YticanhidahkhfaaGreatDoorJ3
import Derived.LaidLaws
import Derived.Deep.Slices
import Derived.Deep.Fields
import Derived.ChangeSame
namespace Go.Proofs.YticanhidahkhfaaGreatDoor
open Go.RowKit
set_option linter.unusedVariables false
set_option linter.unusedSimpArgs false
set_option maxRecDepth 100000
def ShTab (w : World) : Prop := ∀ i, i < 64 → w.cell? ⟨1, i, none⟩ = some (.int .u32 (tabK.getD i 0 : Int))
theorem ShTab.lt {w : World} (h : ShTab w) : 1 < w.heap.size := World.block_lt_of_cell? w ⟨1, 0, none⟩ (h 0 (by omega))
theorem ShTab.below {w w' : World} {B : Nat} (h : ShTab w) (hb : Below B w w') (hB : 1 < B) : ShTab w' := fun i hi => (hb.cell (p := ⟨1, i, none⟩) hB).trans (h i hi)
theorem ShTab.next {w w' : World} (h : ShTab w) (hb : Below w.heap.size w w') : ShTab w' := h.below hb h.lt
theorem ShTab.grown {w w' : World} {g : Nat} (h : ShTab w) (hg : w.grownBy w' (some g)) (hne : 1 ≠ g) : ShTab w' := fun i hi => hg.cell (h i hi) (by simpa using hne)
theorem ShTab.drewN {w : World} (h : ShTab w) (q : Nat) : ShTab (w.drewN q) := h
def workL (lv : List Nat) (o : Value) (n : Nat) : Array Value := (lv.map (fun x : Nat => Value.int .u32 (x : Int)) ++ [o, .int .u64 (n : Int)]).toArray
theorem workL_at {lv : List Nat} {o : Value} {n i x : Nat} (h : lv[i]? = some x) : (workL lv o n)[i]? = some (.int .u32 (x : Int)) := by
  have hi := (List.getElem?_eq_some_iff.1 h).1
  unfold workL
  rw [List.getElem?_toArray, List.getElem?_append_left (by simpa using hi), List.getElem?_map, h]
  rfl
theorem workL_open {lv : List Nat} {o : Value} {n : Nat} (h : lv.length = 8) : (workL lv o n)[8]? = some o := by
  unfold workL
  rw [List.getElem?_toArray, List.getElem?_append_right (by simp [h]), List.length_map, h]
  rfl
theorem workL_size {lv : List Nat} {o : Value} {n : Nat} (h : lv.length = 8) : (workL lv o n)[9]? = some (.int .u64 (n : Int)) := by
  unfold workL
  rw [List.getElem?_toArray, List.getElem?_append_right (by simp [h]), List.length_map, h]
  rfl
theorem workL_set {lv : List Nat} {o : Value} {n i : Nat} (x : Nat) (h : i < lv.length) : (workL lv o n).setIfInBounds i (.int .u32 (x : Int)) = workL (lv.set i x) o n := by
  unfold workL
  rw [List.setIfInBounds_toArray, List.set_append_left _ _ (by simpa using h), List.map_set]
theorem workL_setOpen {lv : List Nat} {o : Value} {n : Nat} (o' : Value) (h : lv.length = 8) : (workL lv o n).setIfInBounds 8 o' = workL lv o' n := by
  unfold workL
  rw [List.setIfInBounds_toArray, List.set_append_right _ _ (by simp [h]), List.length_map, h]
  rfl
theorem workL_setSize {lv : List Nat} {o : Value} {n : Nat} (n' : Nat) (h : lv.length = 8) : (workL lv o n).setIfInBounds 9 (.int .u64 (n' : Int)) = workL lv o n' := by
  unfold workL
  rw [List.setIfInBounds_toArray, List.set_append_right _ _ (by simp [h]), List.length_map, h]
  rfl
theorem list_length (s : S8) : s.list.length = 8 := rfl
def mixL (s r : S8) (i : Nat) : List Nat := (add8 s r).list.take i ++ s.list.drop i
theorem mixL_zero (s r : S8) : mixL s r 0 = s.list := rfl
theorem mixL_all (s r : S8) : mixL s r 8 = (add8 s r).list := rfl
attribute [irreducible] workL
theorem bg1_bits (x : Nat) (hx : x < 4294967296) : ∃ m : Nat, bits .xor .u32 (rot x 6 : Int) (rot x 11 : Int) = (m : Int) ∧ bits .xor .u32 (m : Int) (rot x 25 : Int) = (bg1 x : Int) :=
  ⟨rot x 6 ^^^ rot x 11, u32_xor_nat _ _ (rot_lt _ hx) (rot_lt _ hx), u32_xor_nat _ _ (xor_lt (rot_lt _ hx) (rot_lt _ hx)) (rot_lt _ hx)⟩
theorem bg0_bits (x : Nat) (hx : x < 4294967296) : ∃ m : Nat, bits .xor .u32 (rot x 2 : Int) (rot x 13 : Int) = (m : Int) ∧ bits .xor .u32 (m : Int) (rot x 22 : Int) = (bg0 x : Int) :=
  ⟨rot x 2 ^^^ rot x 13, u32_xor_nat _ _ (rot_lt _ hx) (rot_lt _ hx), u32_xor_nat _ _ (xor_lt (rot_lt _ hx) (rot_lt _ hx)) (rot_lt _ hx)⟩
theorem notS_u32 (s : Nat) (hs : s < 4294967296) : bits .xor .u32 IntKind.u32.max (s : Int) = ((4294967295 - s : Nat) : Int) := by
  have h : IntKind.u32.max = ((4294967295 : Nat) : Int) := rfl
  rw [h, u32_xor_nat 4294967295 s (by omega) hs]
  have h1 := congrArg BitVec.toNat (BitVec.xor_allOnes (x := BitVec.ofNat 32 s))
  rw [BitVec.toNat_xor, BitVec.toNat_not, BitVec.toNat_allOnes, BitVec.toNat_ofNat, Nat.mod_eq_of_lt (by omega)] at h1
  rw [Nat.xor_comm]
  exact congrArg Int.ofNat h1
theorem ch_bits (e f g : Nat) (he : e < 4294967296) (hf : f < 4294967296) (hg : g < 4294967296) : ∃ m n p : Nat, bits .and .u32 (e : Int) (f : Int) = (m : Int) ∧ bits .xor .u32 IntKind.u32.max (e : Int) = (n : Int) ∧ (4294967295 : Int) - (e : Int) = (n : Int) ∧ bits .and .u32 (n : Int) (g : Int) = (p : Int) ∧ bits .or .u32 (m : Int) (p : Int) = (ch e f g : Int) :=
  ⟨e &&& f, 4294967295 - e, (4294967295 - e) &&& g, u32_and_nat _ _ he hf, notS_u32 e he, by omega, u32_and_nat _ _ (by omega) hg, u32_or_nat _ _ (and_lt he) (and_lt (by omega))⟩
theorem maj_bits (a b c : Nat) (ha : a < 4294967296) (hb : b < 4294967296) (hc : c < 4294967296) : ∃ m n p q : Nat, bits .and .u32 (a : Int) (b : Int) = (m : Int) ∧ bits .and .u32 (a : Int) (c : Int) = (n : Int) ∧ bits .or .u32 (m : Int) (n : Int) = (p : Int) ∧ bits .and .u32 (b : Int) (c : Int) = (q : Int) ∧ bits .or .u32 (p : Int) (q : Int) = (maj a b c : Int) :=
  ⟨a &&& b, a &&& c, a &&& b ||| a &&& c, b &&& c, u32_and_nat _ _ ha hb, u32_and_nat _ _ ha hc, u32_or_nat _ _ (and_lt ha) (and_lt ha), u32_and_nat _ _ hb hc, u32_or_nat _ _ (or_lt (and_lt ha) (and_lt ha)) (and_lt hb)⟩
theorem quiet_wd0 {P : Program} {f : FuncId} {args : Array Value} {w : World} {n x : Nat} (h : Calls P f args (w.drewN n) (Wd (w.drewN n) x)) : Calls P f args (w.drewN n) fun e w'' => e = .returned (.int .u32 (x : Int)) ∧ ∃ m, w'' = w.drewN m :=
  h.mono fun _ _ ⟨he, hm⟩ => ⟨he, n, hm.symm⟩
theorem quiet_wd {P : Program} {f : FuncId} {args : Array Value} {w : World} {a n x : Nat} (h : Calls P f args (w.drewN (a + n)) (Wd (w.drewN (a + n)) x)) : Calls P f args (w.drewN (a + n)) fun e w'' => e = .returned (.int .u32 (x : Int)) ∧ ∃ m, w'' = w.drewN (a + m) :=
  h.mono fun _ _ ⟨he, hm⟩ => ⟨he, n, hm.symm⟩
end Go.Proofs.YticanhidahkhfaaGreatDoor
namespace Go.Proofs.YticanhidahkhfaaGreatDoor
open Go.ChangeShapes Go.WideShapes Go.ChangeAt Go.RowKit Go.WideMaps
set_option linter.unusedVariables false
set_option linter.unusedSimpArgs false
set_option maxRecDepth 100000
theorem gTab : Tryz.prog.globalNamed "estreat/sha.table" = some 1 := by kernel_rfl
theorem gTabType : (Tryz.prog.globals[1]?).map (·.type) = some 297 := by kernel_rfl
theorem cellsTab : Tryz.prog.cellsOf 297 = 64 := by kernel_rfl
theorem cellsWord : Tryz.prog.cellsOf 201 = 1 := by kernel_rfl
theorem tab_of_laid {W : World} (h : laidMetH Tryz.prog [("estreat/sha.table", Rows.laid_estreat_sha_table)] W) : ShTab W := by
  have ht : Lib.TabIs Tryz.prog W "estreat/sha.table" .u32 (tabK.map fun x : Nat => (x : Int)) := Lib.tabIs_of_head (rest := []) gTab gTabType Tryz.underlying297 Tryz.underlying201 cellsWord cellsTab h
  intro i hi
  have := ht.cell gTab i (by rw [List.length_map, tabK_length]; exact hi)
  rw [this]
  congr 2
  rw [List.getD_eq_getElem?_getD, List.getD_eq_getElem?_getD, List.getElem?_map, List.getElem?_eq_getElem (by rw [tabK_length]; exact hi)]
  rfl
theorem each_int {H : Type} {enc : TypeId × Value → H} {P : Program} {e : TypeId} {q : IntKind} {W : World} {base : Nat} {sp : Nat → Bool} {held : Bool} (he : P.underlying e = some (.int q)) {m : Nat} {cs : List Value} {c : Nat} : ∀ (L : List Nat) (xs : List (DataW H × List MemPlace)),
    L.mapM (fun i => DataW.trod enc P W base sp held m e ((cs.drop (i * c)).take c)) = some xs → ∀ i ∈ L, ∃ a, (cs.drop (i * c)).take c = [.int q a] ∧ (Lit.int q a).wf = true
  | [], xs, h => by intro i hi; cases hi
  | j :: L, xs, h => by
    rw [List.mapM_cons] at h
    simp only [bind, Option.bind_eq_some_iff, pure, Option.some.injEq] at h
    obtain ⟨y, hy, ys, hys, rfl⟩ := h
    obtain ⟨a, ea, _, wa⟩ := DataW.trod_int he hy
    intro i hi
    rcases List.mem_cons.1 hi with rfl | hi
    · exact ⟨a, ea, wa⟩
    · exact each_int he L ys hys i hi
theorem hash_of {H : Type} {enc : TypeId × Value → H} {W : World} {base : Nat} {v : Value} {d : DataW H} {p : List MemPlace} (hv : Value.okWide Tryz.prog W .any base 39 v) (h : DataW.Trod enc Tryz.prog W 0 (fun _ => true) true 39 v d p) :
    ∃ l : List Nat, v = .agg (bs l).toArray ∧ l.length = 32 ∧ ∀ b ∈ l, b < 256 := by
  have A : ArrKey Tryz.prog 39 5 32 := ⟨Tryz.underlying39, by kernel_rfl, by kernel_rfl, by kernel_rfl⟩
  obtain ⟨xs, rfl, hn⟩ := okWide_arr A hv
  obtain ⟨fuel, hf⟩ := h
  cases fuel with
  | zero => simp [DataW.trod] at hf
  | succ m =>
    rw [DataW.trod_step] at hf
    unfold DataW.trodStep at hf
    simp only [A.hu, Value.cells] at hf
    rw [if_pos (by rw [A.size]; simpa using hn)] at hf
    simp only [Option.map_eq_some_iff] at hf
    obtain ⟨ys, hy, _⟩ := hf
    have hall := each_int Tryz.underlying5 _ ys hy
    have hex : ∀ i, ∃ b : Nat, i < 32 → xs.toList[i]? = some (.int .u8 (b : Int)) ∧ b < 256 := by
      intro i
      by_cases hi : i < 32
      · obtain ⟨a, ha, wa⟩ := hall i (by simpa using hi)
        obtain ⟨b, rfl, hb⟩ := u8_of wa
        refine ⟨b, fun _ => ⟨?_, hb⟩⟩
        rw [A.one, Nat.mul_one] at ha
        have := congrArg (fun z => z[0]?) ha
        simpa [List.getElem?_take, List.getElem?_drop] using this
      · exact ⟨0, fun h => absurd h hi⟩
    obtain ⟨f, hfn⟩ := Classical.axiomOfChoice hex
    refine ⟨(List.range 32).map f, ?_, by simp, ?_⟩
    · congr 1
      apply Array.ext'
      apply List.ext_getElem?
      intro i
      by_cases hi : i < 32
      · rw [(hfn i hi).1]
        simp [bs, List.getElem?_map, List.getElem?_range hi]
      · rw [List.getElem?_eq_none (by simp; omega), List.getElem?_eq_none (by simp [bs]; omega)]
    · intro b hb
      obtain ⟨i, hi, rfl⟩ := List.mem_map.1 hb
      exact (hfn i (by simpa using hi)).2
noncomputable def laidWorldT (os : Os) : World :=
  { World.holding Tryz.prog os ⟨#[], #[], []⟩ with heap := (World.holding Tryz.prog os ⟨#[], #[], []⟩).heap.modify 1 fun
      | .cells _ t frozen => .cells #[.int .u32 1116352408, .int .u32 1899447441, .int .u32 3049323471, .int .u32 3921009573, .int .u32 961987163, .int .u32 1508970993, .int .u32 2453635748, .int .u32 2870763221, .int .u32 3624381080, .int .u32 310598401, .int .u32 607225278, .int .u32 1426881987, .int .u32 1925078388, .int .u32 2162078206, .int .u32 2614888103, .int .u32 3248222580, .int .u32 3835390401, .int .u32 4022224774, .int .u32 264347078, .int .u32 604807628, .int .u32 770255983, .int .u32 1249150122, .int .u32 1555081692, .int .u32 1996064986, .int .u32 2554220882, .int .u32 2821834349, .int .u32 2952996808, .int .u32 3210313671, .int .u32 3336571891, .int .u32 3584528711, .int .u32 113926993, .int .u32 338241895, .int .u32 666307205, .int .u32 773529912, .int .u32 1294757372, .int .u32 1396182291, .int .u32 1695183700, .int .u32 1986661051, .int .u32 2177026350, .int .u32 2456956037, .int .u32 2730485921, .int .u32 2820302411, .int .u32 3259730800, .int .u32 3345764771, .int .u32 3516065817, .int .u32 3600352804, .int .u32 4094571909, .int .u32 275423344, .int .u32 430227734, .int .u32 506948616, .int .u32 659060556, .int .u32 883997877, .int .u32 958139571, .int .u32 1322822218, .int .u32 1537002063, .int .u32 1747873779, .int .u32 1955562222, .int .u32 2024104815, .int .u32 2227730452, .int .u32 2361852424, .int .u32 2428436474, .int .u32 2756734187, .int .u32 3204031479, .int .u32 3329325298] t frozen
      | o => o }
end Go.Proofs.YticanhidahkhfaaGreatDoor
namespace Go.Proofs.YticanhidahkhfaaGreatDoor
open Go.ChangeShapes Go.WideShapes Go.RowKit
set_option maxRecDepth 100000
def laidETab : List (String × DataW Unit) := [("errors.errorType", Rows.laid_errors_errorType), ("estreat/sha.table", Rows.laid_estreat_sha_table)]
theorem tabs_of_laid {W : World} (h : laidMetH Tryz.prog laidETab W) : Met W ∧ ShTab W := by
  have h' : laidMet Tryz.prog [("estreat/sha.table", Rows.laid_estreat_sha_table)] W ∧ handlesMet Tryz.prog laidErr W := h
  exact ⟨met_of_laid ⟨laidMet_nil _ _, h'.2⟩, tab_of_laid h'.1⟩
noncomputable def laidWorldET (os : Os) : World :=
  { laidWorldT os with heap := (laidWorldT os).heap.modify 0 fun
      | .cells _ t frozen => .cells #[.iface 239 (.agg #[.pointer (some ⟨2, 113, none⟩)])] t frozen
      | o => o }
theorem laidWorldET_met (os : Os) (args : Array Value) : laidMetH Tryz.prog laidETab ((laidWorldET os).forCall (fun _ _ => 0) ⟨#[], args, []⟩).memory :=
  laidMetH_of_parts (laidMet_of_run' 8 (by kernel_rfl) (by kernel_rfl)) (by kernel_rfl)
end Go.Proofs.YticanhidahkhfaaGreatDoor
namespace Go.Proofs.YticanhidahkhfaaGreatDoor
open Go.ChangeShapes Go.WideShapes Go.Deep Go.RowKit
section
variable {H : Type} {enc : TypeId × Value → H} {P : Program} {w : World} {base : Nat} {spare : Nat → Bool} {held : Bool}
theorem open_slice_fields {t e : TypeId} {fs : Array Field} {fuel : Nat} {cs : List Value} {x : DataW H × List MemPlace} (ht : P.underlying t = some (.slice e)) (he : P.underlying e = some (.struct fs))
    (hone : oneCellFields P fs = true) (hC : P.cellsOf e = fs.size) (h : DataW.trod enc P w base spare held fuel t cs = some x) :
    (cs = [.slice none 0 0] ∧ x = (.nil, [])) ∨
    ∃ (a : Addr) (len cap m : Nat) (D : Nat → DataW H) (Pl : Nat → List MemPlace), cs = [.slice (some a) len cap] ∧ base ≤ a.block ∧ len ≤ cap ∧ cap ≤ maxLen ∧ m = (if spare a.block then cap else len) ∧
      x = (.slice ((List.range len).map D) ((List.range (m - len)).map fun j => D (len + j)), MemPlace.row a (m * fs.size) ++ (List.range m).flatMap Pl) ∧
      ∀ i, i < m → ∃ (ys : List (DataW H × List MemPlace)) (n : Nat), D i = .agg (ys.map (·.1)) ∧ Pl i = ys.flatMap (·.2) ∧ ys.length = fs.size ∧
        ∀ (j : Nat) (f : Field), fs[j]? = some f → ∃ (v : Value) (y : DataW H × List MemPlace), w.cell? (a.add (i * fs.size + j)) = some v ∧ ys[j]? = some y ∧ DataW.trod enc P w base spare held n f.type [v] = some y := by
  rcases open_slice ht h with h0 | ⟨a, len, cap, m, n, D, Pl, hcs, hb, hl, hm, hmm, hx, hi⟩
  · exact .inl h0
  · refine .inr ⟨a, len, cap, m, D, Pl, hcs, hb, hl, hm, hmm, by rw [hC] at hx; exact hx, fun i him => ?_⟩
    obtain ⟨cs', hc, ht'⟩ := hi i him
    rw [hC] at hc
    obtain ⟨ys, n', hn', hy, hlen, hyl, hf⟩ := DataW.trod_struct he ht'
    obtain ⟨_, hcl, hat⟩ := World.cells?_some hc
    simp only [Prod.mk.injEq] at hy
    refine ⟨ys, n', hy.1, hy.2, hyl, fun j f hj => ?_⟩
    obtain ⟨ho, hk⟩ := hone_of hone j f hj
    have hjl : j < fs.size := (Array.getElem?_eq_some_iff.1 hj).1
    have hcell := hat j hjl
    have hv : cs'[j]? = some (cs'[j]'(by omega)) := List.getElem?_eq_getElem (by omega)
    have h1 := hf j f hj
    rw [ho, hk] at h1
    have hone' : (cs'.drop j).take 1 = [cs'[j]'(by omega)] := by
      rw [List.drop_eq_getElem_cons (by omega)]
      rfl
    rw [hone'] at h1
    have hys : ys[j]? = some (ys[j]'(by omega)) := List.getElem?_eq_getElem (by omega)
    refine ⟨_, _, ?_, hys, h1.trans hys⟩
    rw [← Go.Deep.add_add, hcell, hv]
end
end Go.Proofs.YticanhidahkhfaaGreatDoor
namespace Go.Proofs.YticanhidahkhfaaGreatDoor
open Go.RowKit
set_option linter.unusedVariables false
set_option linter.unusedSimpArgs false
set_option maxRecDepth 100000
def zigI (n : Int) : Int := if 0 ≤ n then 2 * n else -2 * n - 1
def zagI (v : Int) : Int := if v % 2 = 0 then v / 2 else -(v / 2) - 1
theorem zag_zig (n : Int) : zagI (zigI n) = n := by unfold zagI zigI; split <;> split <;> omega
theorem zig_zag (v : Int) (h : 0 ≤ v) : zigI (zagI v) = v := by unfold zagI zigI; split <;> split <;> omega
theorem zigI_range (n : Int) (h1 : -9223372036854775808 ≤ n) (h2 : n ≤ 9223372036854775807) : 0 ≤ zigI n ∧ zigI n < 18446744073709551616 := by unfold zigI; split <;> omega
theorem zagI_range (v : Int) (h1 : 0 ≤ v) (h2 : v < 18446744073709551616) : -9223372036854775808 ≤ zagI v ∧ zagI v ≤ 9223372036854775807 := by unfold zagI; split <;> omega
theorem xor_ones (x : Nat) (h : x < 18446744073709551616) : x ^^^ 18446744073709551615 = 18446744073709551615 - x := by
  have h1 : (BitVec.ofNat 64 x ^^^ BitVec.allOnes 64).toNat = (~~~ (BitVec.ofNat 64 x)).toNat := by rw [BitVec.xor_allOnes]
  rw [BitVec.toNat_xor, BitVec.toNat_not, BitVec.toNat_ofNat, BitVec.toNat_allOnes] at h1
  have e : x % 2 ^ 64 = x := Nat.mod_eq_of_lt (by omega)
  rw [e] at h1
  exact h1
theorem zig_low (n : Int) (h0 : 0 ≤ n) (h2 : n ≤ 9223372036854775807) : bits .xor .u64 (n * 2) (n / 9223372036854775808) = zigI n := by
  obtain ⟨m, rfl⟩ := Int.eq_ofNat_of_zero_le h0
  rw [show ((m : Int) / 9223372036854775808) = ((0 : Nat) : Int) by omega, show ((m : Int) * 2) = ((m * 2 : Nat) : Int) by omega, u64_xor_nat _ _ (by omega) (by omega), Nat.xor_zero]
  unfold zigI
  rw [if_pos h0]; omega
theorem zig_high (n : Int) (h0 : ¬ 0 ≤ n) (h1 : -9223372036854775808 ≤ n) :
    bits .xor .u64 (IntKind.u64.wrap (IntKind.u64.wrap n * 2)) (IntKind.u64.wrap (n / 9223372036854775808)) = zigI n := by
  obtain ⟨m, hm⟩ := Int.eq_ofNat_of_zero_le (show 0 ≤ 2 * n + 18446744073709551616 by omega)
  rw [show IntKind.u64.wrap (n / 9223372036854775808) = ((18446744073709551615 : Nat) : Int) by rw [IntKind.wrap_u64]; omega, show IntKind.u64.wrap (IntKind.u64.wrap n * 2) = (m : Int) by rw [IntKind.wrap_u64, IntKind.wrap_u64]; omega,
    u64_xor_nat _ _ (by omega) (by omega), xor_ones _ (by omega)]
  unfold zigI
  rw [if_neg h0]; omega
theorem and_one (v : Nat) (hv : v < 18446744073709551616) : bits .and .u64 (v : Int) 1 = ((v % 2 : Nat) : Int) := by
  rw [show (1 : Int) = ((1 : Nat) : Int) from rfl, u64_and_nat _ _ hv (by omega), nat_mask1]
theorem zag_is (v : Nat) (hv : v < 18446744073709551616) : bits .xor .i64 ((v : Int) / 2) (wrap64 (-wrap64 (bits .and .u64 (v : Int) 1))) = zagI v := by
  rw [and_one v hv]
  have hx : (BitVec.ofInt 64 ((v : Int) / 2)).toNat = v / 2 := by
    rw [show ((v : Int) / 2) = ((v / 2 : Nat) : Int) by omega, BitVec.ofInt_natCast, BitVec.toNat_ofNat]; exact Nat.mod_eq_of_lt (by omega)
  show IntKind.i64.wrap ((BitVec.ofInt 64 ((v : Int) / 2) ^^^ BitVec.ofInt 64 (wrap64 (-wrap64 ((v % 2 : Nat) : Int)))).toNat : Int) = _
  unfold zagI
  by_cases h : v % 2 = 0
  · rw [h, show wrap64 (-wrap64 ((0 : Nat) : Int)) = 0 by decide +kernel, if_pos (by omega), show BitVec.ofInt 64 0 = 0#64 from rfl, BitVec.xor_zero, hx, IntKind.wrap_i64]
    omega
  · have h1 : v % 2 = 1 := by omega
    rw [h1, show wrap64 (-wrap64 ((1 : Nat) : Int)) = -1 by decide +kernel, if_neg (by omega), show BitVec.ofInt 64 (-1) = BitVec.allOnes 64 by decide, BitVec.xor_allOnes, BitVec.toNat_not, hx, IntKind.wrap_i64]
    omega
end Go.Proofs.YticanhidahkhfaaGreatDoor
namespace Go.Proofs.YticanhidahkhfaaGreatDoor
def pk (w : Nat) : List Nat → Nat
  | [] => 0
  | a :: l => a + 2 ^ w * pk w l
def dg (w : Nat) : Nat → Nat → List Nat
  | 0, _ => []
  | n + 1, V => V % 2 ^ w :: dg w n (V / 2 ^ w)
theorem pk_cons (w a : Nat) (l : List Nat) : pk w (a :: l) = a + 2 ^ w * pk w l := rfl
theorem pk_append (w : Nat) (l m : List Nat) : pk w (l ++ m) = pk w l + 2 ^ (w * l.length) * pk w m := by
  induction l with
  | nil => simp [pk]
  | cons a l ih =>
    rw [List.cons_append, pk_cons, pk_cons, ih, List.length_cons, Nat.mul_succ, Nat.pow_add, Nat.mul_add, Nat.add_assoc]
    congr 2
    rw [← Nat.mul_assoc, Nat.mul_comm (2 ^ w)]
theorem pk_snoc (w : Nat) (l : List Nat) (a : Nat) : pk w (l ++ [a]) = pk w l + 2 ^ (w * l.length) * a := by
  rw [pk_append]; simp [pk]
theorem pk_lt (w : Nat) (l : List Nat) (h : ∀ a ∈ l, a < 2 ^ w) : pk w l < 2 ^ (w * l.length) := by
  induction l with
  | nil => simp [pk]
  | cons a l ih =>
    have h1 := h a (by simp)
    have h2 := ih fun x hx => h x (by simp [hx])
    rw [pk_cons, List.length_cons, Nat.mul_succ, Nat.pow_add, Nat.mul_comm (2 ^ (w * l.length))]
    calc a + 2 ^ w * pk w l < 2 ^ w + 2 ^ w * pk w l := by omega
      _ = 2 ^ w * (pk w l + 1) := by rw [Nat.mul_add]; omega
      _ ≤ 2 ^ w * 2 ^ (w * l.length) := Nat.mul_le_mul_left _ h2
theorem dg_succ (w n V : Nat) : dg w (n + 1) V = V % 2 ^ w :: dg w n (V / 2 ^ w) := rfl
theorem dg_length (w n V : Nat) : (dg w n V).length = n := by
  induction n generalizing V with
  | zero => rfl
  | succ n ih => rw [dg_succ, List.length_cons, ih]
theorem dg_lt (w n V : Nat) : ∀ a ∈ dg w n V, a < 2 ^ w := by
  induction n generalizing V with
  | zero => intro a h; cases h
  | succ n ih =>
    intro a h
    rw [dg_succ] at h
    rcases List.mem_cons.1 h with rfl | h
    · exact Nat.mod_lt _ (Nat.two_pow_pos w)
    · exact ih _ a h
theorem pk_dg (w n V : Nat) : pk w (dg w n V) = V % 2 ^ (w * n) := by
  induction n generalizing V with
  | zero => simp [dg, pk, Nat.mod_one]
  | succ n ih => rw [dg_succ, pk_cons, ih, Nat.mul_succ, Nat.pow_add, Nat.mul_comm (2 ^ (w * n)), Nat.mod_mul]
theorem dg_pk (w : Nat) (l : List Nat) (h : ∀ a ∈ l, a < 2 ^ w) : dg w l.length (pk w l) = l := by
  induction l with
  | nil => rfl
  | cons a l ih =>
    have h1 := h a (by simp)
    rw [List.length_cons, dg_succ, pk_cons, Nat.add_mul_mod_self_left, Nat.mod_eq_of_lt h1, Nat.add_mul_div_left _ _ (Nat.two_pow_pos w), Nat.div_eq_of_lt h1, Nat.zero_add,
      ih fun x hx => h x (by simp [hx])]
theorem dg_add (w m n V : Nat) : dg w (m + n) V = dg w m V ++ dg w n (V / 2 ^ (w * m)) := by
  induction m generalizing V with
  | zero => simp [dg]
  | succ m ih =>
    rw [Nat.succ_add, dg_succ, dg_succ, ih, List.cons_append, Nat.div_div_eq_div_mul, Nat.mul_succ, Nat.pow_add, Nat.mul_comm (2 ^ w)]
theorem dg_snoc (w n V : Nat) : dg w (n + 1) V = dg w n V ++ [V / 2 ^ (w * n) % 2 ^ w] := by
  rw [dg_add]; rfl
theorem dg_over (w n V X : Nat) : dg w n (V + 2 ^ (w * n) * X) = dg w n V := by
  induction n generalizing V with
  | zero => rfl
  | succ n ih =>
    rw [dg_succ, dg_succ, Nat.mul_succ, Nat.add_comm (w * n) w, Nat.pow_add, Nat.mul_assoc, Nat.add_mul_mod_self_left, Nat.add_mul_div_left _ _ (Nat.two_pow_pos w), ih]
theorem dg_zero_width (n V : Nat) : dg 0 n V = List.replicate n 0 := by
  induction n generalizing V with
  | zero => rfl
  | succ n ih => rw [dg_succ, ih, Nat.pow_zero, Nat.mod_one, List.replicate_succ]
theorem dg_of_zero (w n : Nat) : dg w n 0 = List.replicate n 0 := by
  induction n with
  | zero => rfl
  | succ n ih => rw [dg_succ, Nat.zero_mod, Nat.zero_div, ih, List.replicate_succ]
theorem pk_drop (w : Nat) (l : List Nat) (h : ∀ a ∈ l, a < 2 ^ w) (i : Nat) : pk w l / 2 ^ (w * i) = pk w (l.drop i) := by
  induction i generalizing l with
  | zero => simp
  | succ i ih =>
    cases l with
    | nil => simp [pk]
    | cons a l =>
      have h1 := h a (by simp)
      rw [List.drop_succ_cons, ← ih l fun x hx => h x (by simp [hx]), pk_cons, Nat.mul_succ, Nat.add_comm (w * i), Nat.pow_add, ← Nat.div_div_eq_div_mul, Nat.add_mul_div_left _ _ (Nat.two_pow_pos w), Nat.div_eq_of_lt h1, Nat.zero_add]
theorem pk_bit (w : Nat) (l : List Nat) (h : ∀ a ∈ l, a < 2 ^ w) (i k : Nat) (hi : i < l.length) (hk : k < w) : pk w l / 2 ^ (w * i + k) % 2 = l[i] / 2 ^ k % 2 := by
  rw [Nat.pow_add, ← Nat.div_div_eq_div_mul, pk_drop w l h, List.drop_eq_getElem_cons hi, pk_cons]
  obtain ⟨d, rfl⟩ : ∃ d, w = k + (d + 1) := ⟨w - k - 1, by omega⟩
  rw [Nat.pow_add, Nat.mul_assoc, Nat.add_mul_div_left _ _ (Nat.two_pow_pos k), Nat.pow_succ, Nat.mul_comm (2 ^ d) 2, Nat.mul_assoc, Nat.add_mul_mod_self_left]
theorem bit_down (V m j : Nat) : V / 2 ^ m % 2 ^ (j + 1) = 2 * (V / 2 ^ (m + 1) % 2 ^ j) + V / 2 ^ m % 2 := by
  rw [Nat.pow_succ 2 j, Nat.mul_comm (2 ^ j) 2, Nat.mod_mul, Nat.pow_succ 2 m, ← Nat.div_div_eq_div_mul]
  omega
def blen (v : Nat) : Nat := if v = 0 then 0 else v.log2 + 1
theorem blen_le (v k : Nat) : blen v ≤ k ↔ v < 2 ^ k := by
  unfold blen
  by_cases h : v = 0
  · simp [h, Nat.two_pow_pos]
  · rw [if_neg h, ← Nat.log2_lt h]; omega
theorem blen_half (v : Nat) (h : 0 < v) : blen v = blen (v / 2) + 1 := by
  have h1 : ∀ k, blen v ≤ k + 1 ↔ blen (v / 2) ≤ k := fun k => by
    rw [blen_le, blen_le, Nat.pow_succ]; omega
  have h2 := (h1 (blen (v / 2))).2 (Nat.le_refl _)
  have h3 : 0 < blen v := by
    rcases Nat.eq_zero_or_pos (blen v) with h0 | h0
    · have := (blen_le v 0).1 (by omega); simp at this; omega
    · exact h0
  have h4 := (h1 (blen v - 1)).1 (by omega)
  omega
theorem blen_or (a b : Nat) : blen (a ||| b) = max (blen a) (blen b) := by
  have h : ∀ k, blen (a ||| b) ≤ k ↔ max (blen a) (blen b) ≤ k := fun k => by
    rw [Nat.max_le, blen_le, blen_le, blen_le]
    constructor
    · intro h; exact ⟨Nat.lt_of_le_of_lt Nat.left_le_or h, Nat.lt_of_le_of_lt Nat.right_le_or h⟩
    · intro h; exact Nat.or_lt_two_pow h.1 h.2
  have h1 := (h _).1 (Nat.le_refl _)
  have h2 := (h _).2 (Nat.le_refl _)
  omega
theorem blen_lt64 (v : Nat) (h : v < 18446744073709551616) : blen v ≤ 64 := (blen_le v 64).2 (by simpa using h)
def wd : List Nat → Nat := List.foldl (fun m a => max m (blen a)) 0
def orl : List Nat → Nat := List.foldl (· ||| ·) 0
theorem wd_snoc (l : List Nat) (a : Nat) : wd (l ++ [a]) = max (wd l) (blen a) := by simp [wd]
theorem orl_snoc (l : List Nat) (a : Nat) : orl (l ++ [a]) = orl l ||| a := by simp [orl]
theorem snoc_ind {p : List Nat → Prop} (h0 : p []) (h1 : ∀ l a, p l → p (l ++ [a])) (l : List Nat) : p l := by
  have : ∀ m : List Nat, p m.reverse := fun m => by
    induction m with
    | nil => exact h0
    | cons a m ih => rw [List.reverse_cons]; exact h1 _ _ ih
  have := this l.reverse
  rwa [List.reverse_reverse] at this
theorem wd_le (l : List Nat) (k : Nat) : wd l ≤ k ↔ ∀ a ∈ l, a < 2 ^ k := by
  refine snoc_ind (p := fun l => wd l ≤ k ↔ ∀ a ∈ l, a < 2 ^ k) ?_ ?_ l
  · simp [wd]
  · intro l a ih
    rw [wd_snoc, Nat.max_le, ih, blen_le]
    simp only [List.mem_append, List.mem_singleton]
    constructor
    · rintro ⟨h1, h2⟩ x (hx | rfl)
      · exact h1 x hx
      · exact h2
    · intro h
      exact ⟨fun x hx => h x (.inl hx), h a (.inr rfl)⟩
theorem blen_orl (l : List Nat) : blen (orl l) = wd l := by
  refine snoc_ind (p := fun l => blen (orl l) = wd l) rfl ?_ l
  intro l a ih
  rw [orl_snoc, wd_snoc, blen_or, ih]
theorem orl_lt (l : List Nat) (k : Nat) (h : ∀ a ∈ l, a < 2 ^ k) : orl l < 2 ^ k := by
  rw [← blen_le, blen_orl, wd_le]; exact h
def sz (n w : Nat) : Nat := (n * w + 7) / 8
def packB (w : Nat) (l : List Nat) : List Nat := dg 8 (sz l.length w) (pk w l)
theorem packB_length (w : Nat) (l : List Nat) : (packB w l).length = sz l.length w := dg_length _ _ _
theorem packB_byte (w : Nat) (l : List Nat) : ∀ b ∈ packB w l, b < 256 := dg_lt 8 _ _
theorem sz_le (n w : Nat) : w * n ≤ 8 * sz n w := by unfold sz; rw [Nat.mul_comm w n]; omega
theorem pk_packB (w : Nat) (l : List Nat) (h : ∀ a ∈ l, a < 2 ^ w) : pk 8 (packB w l) = pk w l := by
  unfold packB
  rw [pk_dg]
  exact Nat.mod_eq_of_lt (Nat.lt_of_lt_of_le (pk_lt w l h) (Nat.pow_le_pow_right (by omega) (sz_le _ _)))
theorem unpack_pack (w : Nat) (l : List Nat) (h : ∀ a ∈ l, a < 2 ^ w) : dg w l.length (pk 8 (packB w l)) = l := by
  rw [pk_packB w l h, dg_pk w l h]
theorem pack_unpack (w n : Nat) (b : List Nat) (hb : ∀ a ∈ b, a < 256) (hl : b.length = sz n w) (hv : pk 8 b < 2 ^ (w * n)) : packB w (dg w n (pk 8 b)) = b := by
  unfold packB
  rw [dg_length, pk_dg, Nat.mod_eq_of_lt hv, ← hl, dg_pk 8 b hb]
theorem packB_append (w : Nat) (a b : List Nat) (ha : ∀ x ∈ a, x < 2 ^ w) (h8 : a.length * w % 8 = 0) : packB w (a ++ b) = packB w a ++ packB w b := by
  have hs : 8 * sz a.length w = w * a.length := by unfold sz; rw [Nat.mul_comm w]; omega
  have hs2 : sz (a ++ b).length w = sz a.length w + sz b.length w := by
    unfold sz; rw [List.length_append, Nat.add_mul]; omega
  unfold packB
  rw [hs2, dg_add, pk_append]
  congr 1
  · rw [← hs, dg_over]
  · rw [hs, Nat.add_mul_div_left _ _ (Nat.two_pow_pos _), Nat.div_eq_of_lt (pk_lt w a ha), Nat.zero_add]
end Go.Proofs.YticanhidahkhfaaGreatDoor
namespace Go.Proofs.YticanhidahkhfaaGreatDoor
open Go.RowKit
set_option linter.unusedVariables false
set_option linter.unusedSimpArgs false
set_option maxRecDepth 100000
def In64 (z : Int) : Prop := -9223372036854775808 ≤ z ∧ z ≤ 9223372036854775807
def zg (z : Int) : Nat := (zigI z).toNat
theorem zg_int {z : Int} (h : In64 z) : zigI z = (zg z : Int) ∧ zg z < 18446744073709551616 := by
  have := zigI_range z h.1 h.2
  unfold zg; omega
theorem zagI_zg {z : Int} (h : In64 z) : zagI (zg z : Int) = z := by rw [← (zg_int h).1, zag_zig]
theorem zg_zagI (v : Nat) : zg (zagI (v : Int)) = v := by unfold zg; rw [zig_zag _ (by omega)]; omega
theorem zagI_in {v : Nat} (h : v < 18446744073709551616) : In64 (zagI (v : Int)) := zagI_range _ (by omega) (by omega)
def pl (l : List Int) : List Nat := l.flatMap fun z => vb (zg z)
theorem pl_nil : pl [] = [] := rfl
theorem pl_append (l m : List Int) : pl (l ++ m) = pl l ++ pl m := by simp [pl]
theorem pl_one (z : Int) : pl [z] = vb (zg z) := by simp [pl]
theorem take_snoc {α : Type} {l : List α} {k : Nat} {z : α} (h : l[k]? = some z) : l.take (k + 1) = l.take k ++ [z] := by rw [List.take_add_one, h]; rfl
theorem pl_step {l : List Int} {k : Nat} {z : Int} (h : l[k]? = some z) : pl (l.take (k + 1)) = pl (l.take k) ++ vb (zg z) := by rw [take_snoc h, pl_append, pl_one]
theorem pl_cons (z : Int) (l : List Int) : pl (z :: l) = vb (zg z) ++ pl l := by simp [pl]
theorem pl_length (l : List Int) : l.length ≤ (pl l).length ∧ (pl l).length ≤ 10 * l.length := by
  induction l with
  | nil => simp [pl]
  | cons z l ih =>
    have := vb_length (zg z)
    rw [pl_cons, List.length_append, List.length_cons]; omega
theorem pl_byte (l : List Int) (h : ∀ z ∈ l, In64 z) : ∀ b ∈ pl l, b < 256 := by
  intro b hb
  obtain ⟨z, hz, hb⟩ := List.mem_flatMap.1 hb
  exact vb_byte _ (zg_int (h z hz)).2 b hb
theorem or_one (v : Nat) : 0 < v ||| 1 ∧ (v ||| 1) / 2 = v / 2 := by
  have h : (v ||| 1).testBit 0 = true := by simp
  have h2 : (v ||| 1) / 2 = v / 2 := by
    apply Nat.eq_of_testBit_eq
    intro i
    rw [Nat.testBit_div_two, Nat.testBit_or, Nat.testBit_div_two]
    have : Nat.testBit 1 (i + 1) = false := by rw [Nat.testBit_succ]; simp
    rw [this, Bool.or_false]
  refine ⟨?_, h2⟩
  rcases Nat.eq_zero_or_pos (v ||| 1) with h0 | h0
  · rw [h0] at h; simp at h
  · exact h0
theorem blen_one (v : Nat) : blen (v ||| 1) = blen (v / 2) + 1 := by rw [blen_half _ (or_one v).1, (or_one v).2]
theorem blen7 : ∀ b : Fin 128, 64 ≤ b.val → blen b.val = 7 := by decide +kernel
theorem vb_size (v : Nat) : v < 18446744073709551616 → (vb v).length = (blen (v / 2) + 7) / 7 := by
  induction v using Nat.strongRecOn with
  | ind v ih =>
    intro hv
    by_cases h : v < 128
    · have := (blen_le (v / 2) 6).2 (by omega)
      rw [vb_small v h, List.length_singleton]; omega
    · rw [vb_big v h hv, List.length_cons, ih (v / 128) (by omega) (by omega)]
      by_cases h2 : v < 256
      · have h3 := blen7 ⟨v / 2, by omega⟩ (by simp only; omega)
        simp only at h3
        have h4 : v / 128 / 2 = 0 := by omega
        rw [h3, h4]
        rfl
      · have h3 := Go.Proofs.YticanhidahkhfaaGreatDoor.blen_half
        have e : blen (v / 2) = blen (v / 128 / 2) + 7 := by
          rw [h3 (v / 2) (by omega), h3 (v / 2 / 2) (by omega), h3 (v / 2 / 2 / 2) (by omega), h3 (v / 2 / 2 / 2 / 2) (by omega), h3 (v / 2 / 2 / 2 / 2 / 2) (by omega), h3 (v / 2 / 2 / 2 / 2 / 2 / 2) (by omega), h3 (v / 2 / 2 / 2 / 2 / 2 / 2 / 2) (by omega)]
          rw [show v / 2 / 2 / 2 / 2 / 2 / 2 / 2 / 2 = v / 128 / 2 by omega]
        omega
end Go.Proofs.YticanhidahkhfaaGreatDoor
