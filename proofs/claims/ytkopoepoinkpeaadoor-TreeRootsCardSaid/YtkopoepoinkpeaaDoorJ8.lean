/- Texts joined: ShaCard Each. -/
import Derived.Test.YtkopoepoinkpeaaDoorRows
import Derived.Test.YtkopoepoinkpeaaDoorJ2
import Derived.Test.YtkopoepoinkpeaaDoorShaWork
import Derived.WalkKit
import Derived.ProofKit
import Derived.OpenShut
import Derived.Deep.DeepHandedRow
import Derived.Lib.LaidTab
import Derived.WideKeyArr2
import Derived.Test.YtkopoepoinkpeaaDoorWords
/- The listed variable sha.table: from the row's condition to its cells; a world that meets it; a digest that came in by value, opened. -/
namespace Go.Proofs.YtkopoepoinkpeaaDoor
open Go.ChangeShapes Go.WideShapes Go.ChangeAt Go.RowKit Go.WideMaps
set_option linter.unusedVariables false
set_option linter.unusedSimpArgs false
set_option maxRecDepth 100000

theorem gTab : Tryd.prog.globalNamed "estreat/sha.table" = some 0 := by kernel_rfl
theorem gTabType : (Tryd.prog.globals[0]?).map (·.type) = some 78 := by kernel_rfl
theorem cellsTab : Tryd.prog.cellsOf 78 = 64 := by kernel_rfl
theorem cellsWord : Tryd.prog.cellsOf 65 = 1 := by kernel_rfl
theorem tab_of_laid {W : World} (h : laidMetH Tryd.prog [("estreat/sha.table", Rows.laid_estreat_sha_table)] W) : ShTab W := by
  have ht : Lib.TabIs Tryd.prog W "estreat/sha.table" .u32 (tabK.map fun x : Nat => (x : Int)) := Lib.tabIs_of_head (rest := []) gTab gTabType Tryd.underlying78 Tryd.underlying65 cellsWord cellsTab h
  intro i hi
  have := ht.cell gTab i (by rw [List.length_map, tabK_length]; exact hi)
  rw [this]
  congr 2
  rw [List.getD_eq_getElem?_getD, List.getD_eq_getElem?_getD, List.getElem?_map, List.getElem?_eq_getElem (by rw [tabK_length]; exact hi)]
  rfl
/-- A digest that came in by value. -/
theorem each_int {H : Type} {enc : TypeId × Value → H} {P : Program} {e : TypeId} {q : IntKind} {W : World} {base : Nat} {sp : Nat → Bool} {held : Bool} (he : P.underlying e = some (.int q)) {m : Nat} {cs : List Value} {c : Nat} : ∀ (L : List Nat) (xs : List (DataW H × List MemPlace)),
    L.mapM (fun i => DataW.trod enc P W base sp held m e ((cs.drop (i * c)).take c)) = some xs → ∀ i ∈ L, ∃ a, (cs.drop (i * c)).take c = [.int q a] ∧ (Lit.int q a).wf = true
  | [], xs, h => by intro i hi; cases hi
  | j :: L, xs, h => by
    rw [List.mapM_cons] at h
    simp only [bind, Option.bind_eq_some_iff, pure, Option.some.injEq] at h
    obtain ⟨y, hy, ys, hys, rfl⟩ := h
    obtain ⟨a, ea, _, wa⟩ := DataW.trod_int he hy
    intro i hi
    rcases List.mem_cons.1 hi with rfl | hi
    · exact ⟨a, ea, wa⟩
    · exact each_int he L ys hys i hi
theorem hash_of {H : Type} {enc : TypeId × Value → H} {W : World} {base : Nat} {v : Value} {d : DataW H} {p : List MemPlace} (hv : Value.okWide Tryd.prog W .any base 31 v) (h : DataW.Trod enc Tryd.prog W 0 (fun _ => true) true 31 v d p) :
    ∃ l : List Nat, v = .agg (bs l).toArray ∧ l.length = 32 ∧ ∀ b ∈ l, b < 256 := by
  have A : ArrKey Tryd.prog 31 5 32 := ⟨Tryd.underlying31, by kernel_rfl, by kernel_rfl, by kernel_rfl⟩
  obtain ⟨xs, rfl, hn⟩ := okWide_arr A hv
  obtain ⟨fuel, hf⟩ := h
  cases fuel with
  | zero => simp [DataW.trod] at hf
  | succ m =>
    rw [DataW.trod_step] at hf
    unfold DataW.trodStep at hf
    simp only [A.hu, Value.cells] at hf
    rw [if_pos (by rw [A.size]; simpa using hn)] at hf
    simp only [Option.map_eq_some_iff] at hf
    obtain ⟨ys, hy, _⟩ := hf
    have hall := each_int Tryd.underlying5 _ ys hy
    have hex : ∀ i, ∃ b : Nat, i < 32 → xs.toList[i]? = some (.int .u8 (b : Int)) ∧ b < 256 := by
      intro i
      by_cases hi : i < 32
      · obtain ⟨a, ha, wa⟩ := hall i (by simpa using hi)
        obtain ⟨b, rfl, hb⟩ := u8_of wa
        refine ⟨b, fun _ => ⟨?_, hb⟩⟩
        rw [A.one, Nat.mul_one] at ha
        have := congrArg (fun z => z[0]?) ha
        simpa [List.getElem?_take, List.getElem?_drop] using this
      · exact ⟨0, fun h => absurd h hi⟩
    obtain ⟨f, hfn⟩ := Classical.axiomOfChoice hex
    refine ⟨(List.range 32).map f, ?_, by simp, ?_⟩
    · congr 1
      apply Array.ext'
      apply List.ext_getElem?
      intro i
      by_cases hi : i < 32
      · rw [(hfn i hi).1]
        simp [bs, List.getElem?_map, List.getElem?_range hi]
      · rw [List.getElem?_eq_none (by simp; omega), List.getElem?_eq_none (by simp [bs]; omega)]
    · intro b hb
      obtain ⟨i, hi, rfl⟩ := List.mem_map.1 hb
      exact (hfn i (by simpa using hi)).2
/-- A world that meets the row's list. -/
noncomputable def laidWorldT (os : Os) : World :=
  { World.holding Tryd.prog os ⟨#[], #[], []⟩ with heap := (World.holding Tryd.prog os ⟨#[], #[], []⟩).heap.modify 0 fun
      | .cells _ t frozen => .cells #[.int .u32 1116352408, .int .u32 1899447441, .int .u32 3049323471, .int .u32 3921009573, .int .u32 961987163, .int .u32 1508970993, .int .u32 2453635748, .int .u32 2870763221, .int .u32 3624381080, .int .u32 310598401, .int .u32 607225278, .int .u32 1426881987, .int .u32 1925078388, .int .u32 2162078206, .int .u32 2614888103, .int .u32 3248222580, .int .u32 3835390401, .int .u32 4022224774, .int .u32 264347078, .int .u32 604807628, .int .u32 770255983, .int .u32 1249150122, .int .u32 1555081692, .int .u32 1996064986, .int .u32 2554220882, .int .u32 2821834349, .int .u32 2952996808, .int .u32 3210313671, .int .u32 3336571891, .int .u32 3584528711, .int .u32 113926993, .int .u32 338241895, .int .u32 666307205, .int .u32 773529912, .int .u32 1294757372, .int .u32 1396182291, .int .u32 1695183700, .int .u32 1986661051, .int .u32 2177026350, .int .u32 2456956037, .int .u32 2730485921, .int .u32 2820302411, .int .u32 3259730800, .int .u32 3345764771, .int .u32 3516065817, .int .u32 3600352804, .int .u32 4094571909, .int .u32 275423344, .int .u32 430227734, .int .u32 506948616, .int .u32 659060556, .int .u32 883997877, .int .u32 958139571, .int .u32 1322822218, .int .u32 1537002063, .int .u32 1747873779, .int .u32 1955562222, .int .u32 2024104815, .int .u32 2227730452, .int .u32 2361852424, .int .u32 2428436474, .int .u32 2756734187, .int .u32 3204031479, .int .u32 3329325298] t frozen
      | o => o }
end Go.Proofs.YtkopoepoinkpeaaDoor

/- A relation between the values of a row and byte texts, one for one. No program. -/
namespace Go.Proofs.YtkopoepoinkpeaaDoor
open Go.RowKit
set_option linter.unusedVariables false
set_option linter.unusedSimpArgs false

def Each (R : Value → List Nat → Prop) : List Value → List (List Nat) → Prop
  | [], [] => True
  | v :: vs, l :: ls => R v l ∧ Each R vs ls
  | _, _ => False
theorem Each.imp {R R' : Value → List Nat → Prop} (h : ∀ v l, R v l → R' v l) : ∀ {vs : List Value} {ls : List (List Nat)}, Each R vs ls → Each R' vs ls := by
  intro vs
  induction vs with
  | nil => intro ls e; cases ls with
    | nil => trivial
    | cons l ls => exact e.elim
  | cons v vs ih => intro ls e; cases ls with
    | nil => exact e.elim
    | cons l ls => exact ⟨h v l e.1, ih e.2⟩
theorem Each.length {R : Value → List Nat → Prop} : ∀ {vs : List Value} {ls : List (List Nat)}, Each R vs ls → vs.length = ls.length := by
  intro vs
  induction vs with
  | nil => intro ls e; cases ls with
    | nil => rfl
    | cons l ls => exact e.elim
  | cons v vs ih => intro ls e; cases ls with
    | nil => exact e.elim
    | cons l ls => simp [ih e.2]
theorem Each.append {R : Value → List Nat → Prop} : ∀ {vs : List Value} {ls : List (List Nat)} {us : List Value} {ms : List (List Nat)}, Each R vs ls → Each R us ms → Each R (vs ++ us) (ls ++ ms) := by
  intro vs
  induction vs with
  | nil => intro ls us ms e f; cases ls with
    | nil => exact f
    | cons l ls => exact e.elim
  | cons v vs ih => intro ls us ms e f; cases ls with
    | nil => exact e.elim
    | cons l ls => exact ⟨e.1, ih e.2 f⟩
theorem Each.at_ {R : Value → List Nat → Prop} : ∀ {vs : List Value} {ls : List (List Nat)}, Each R vs ls → ∀ {i : Nat} {l : List Nat}, ls[i]? = some l → ∃ v, vs[i]? = some v ∧ R v l := by
  intro vs
  induction vs with
  | nil => intro ls e i l h; cases ls with
    | nil => simp at h
    | cons l ls => exact e.elim
  | cons v vs ih => intro ls e i l h; cases ls with
    | nil => exact e.elim
    | cons l' ls =>
      cases i with
      | zero => simp at h; subst h; exact ⟨v, by simp, e.1⟩
      | succ i => simp at h; obtain ⟨u, h1, h2⟩ := ih e.2 h; exact ⟨u, by simpa using h1, h2⟩
theorem Each.cells {R : Value → List Nat → Prop} (h1 : ∀ v l, R v l → v.oneCell' = true) : ∀ {vs : List Value} {ls : List (List Nat)}, Each R vs ls → ∀ u ∈ vs, u.oneCell' = true := by
  intro vs
  induction vs with
  | nil => intro ls e u hu; simp at hu
  | cons v vs ih => intro ls e u hu; cases ls with
    | nil => exact e.elim
    | cons l ls =>
      rcases List.mem_cons.1 hu with rfl | hu
      · exact h1 _ _ e.1
      · exact ih e.2 u hu
theorem Each.range {R : Value → List Nat → Prop} (g : Nat → Value) (f : Nat → List Nat) (n : Nat) (h : ∀ r, r < n → R (g r) (f r)) : Each R ((List.range n).map g) ((List.range n).map f) := by
  induction n with
  | zero => trivial
  | succ n ih =>
    rw [List.range_succ, List.map_append, List.map_append]
    exact (ih fun r hr => h r (by omega)).append ⟨h n (by omega), trivial⟩
end Go.Proofs.YtkopoepoinkpeaaDoor
