/- Texts joined: ZnCell ZonesIn VlArg VlCmpC TxCmp VlGtr VlCmp ZwCl FstP ZwFind Hmf ZwTree VMake ZwZero Round. -/
import Derived.Test.YtmjpjllbfgkfbaaDoorJ3
import Derived.Test.YtmjpjllbfgkfbaaDoorJ2
import Derived.Laws.Strings
import Derived.Deep.QuietTactic
import Derived.BigQuiet
import Derived.Test.YtmjpjllbfgkfbaaDoorJ1
import Derived.RangeFuncNested
import Derived.RangeFuncCalls
import Derived.RangeFuncLeaves
import Derived.Shelf.Abstract
import Derived.Shelf.RegionOpen
import Derived.OwnWalkIn
import Derived.TacticsInMore
import Derived.LoopNIn
import Derived.LoopIn
/- Zones' cells; three cells stored. No program; no condition. -/
namespace Go.Proofs.YtmjpjllbfgkfbaaDoor
open Go.RowKit
set_option linter.unusedVariables false
set_option linter.unusedSimpArgs false
set_option maxRecDepth 100000

/-- A zone's cells. -/
def zc (z : Zn) : List Value := [.int .i64 z.1, .bool z.2.1] ++ vc z.2.2.1 ++ vc z.2.2.2
/-- A zone handed over. -/
def zW (z : Zn) : Value := .agg #[.int .i64 z.1, .bool z.2.1, .int .i64 z.2.2.1.1, .int .i64 z.2.2.1.2.1, .string ⟨z.2.2.1.2.2.toArray⟩, .int .i64 z.2.2.2.1, .int .i64 z.2.2.2.2.1, .string ⟨z.2.2.2.2.2.toArray⟩]
theorem blk8 {w : World} {g : Nat} {t : TypeId} {a b c d e f h i : Value} (H : Blk w g t #[a, b, c, d, e, f, h, i]) : w.cell? ⟨g, 0, none⟩ = some a ∧ w.cell? ⟨g, 1, none⟩ = some b ∧ w.cell? ⟨g, 2, none⟩ = some c ∧ w.cell? ⟨g, 3, none⟩ = some d ∧ w.cell? ⟨g, 4, none⟩ = some e ∧ w.cell? ⟨g, 5, none⟩ = some f ∧ w.cell? ⟨g, 6, none⟩ = some h ∧ w.cell? ⟨g, 7, none⟩ = some i :=
  ⟨H.cell 0, H.cell 1, H.cell 2, H.cell 3, H.cell 4, H.cell 5, H.cell 6, H.cell 7⟩
/-- The result's three cells are stored. -/
theorem store3 {w W : World} {R : Nat} {t : TypeId} {z0 z1 z2 : Value} (hR : Blk W R t #[z0, z1, z2]) (hb : Below w.heap.size w W) (hwR : w.heap.size ≤ R) (u0 u1 u2 : Value) :
    Blk (((W.setCell ⟨R, 0, none⟩ u0).setCell ⟨R, 1, none⟩ u1).setCell ⟨R, 2, none⟩ u2) R t #[u0, u1, u2] ∧ Below w.heap.size w (((W.setCell ⟨R, 0, none⟩ u0).setCell ⟨R, 1, none⟩ u1).setCell ⟨R, 2, none⟩ u2) := by
  have b3 := ((hR.set_ 0 u0).set_ 1 u1).set_ 2 u2
  have g3 := ((hb.setCell (p := ⟨R, 0, none⟩) hwR u0).setCell (p := ⟨R, 1, none⟩) hwR u1).setCell (p := ⟨R, 2, none⟩) hwR u2
  exact ⟨by simpa using b3, g3⟩
end Go.Proofs.YtmjpjllbfgkfbaaDoor

/- Zones in memory: structs of eight cells, one behind the other; a list of them that came in, opened. -/
namespace Go.Proofs.YtmjpjllbfgkfbaaDoor
open Go.ChangeShapes Go.WideShapes Go.Deep Go.RowKit
set_option linter.unusedVariables false
set_option linter.unusedSimpArgs false
set_option maxRecDepth 100000

/-- Zones as cells. -/
def zcs (l : List Zn) : List Value := l.flatMap zc
theorem zc_length (z : Zn) : (zc z).length = 8 := rfl
theorem zcs_length : ∀ l : List Zn, (zcs l).length = l.length * 8
  | [] => rfl
  | z :: l => by rw [zcs, List.flatMap_cons, List.length_append, zc_length, List.length_cons]; have := zcs_length l; unfold zcs at this; omega
theorem zcs_at : ∀ {l : List Zn} {k j : Nat} {z : Zn}, l[k]? = some z → j < 8 → (zcs l)[k * 8 + j]? = (zc z)[j]?
  | [], _, _, _, h, _ => by simp at h
  | x :: l, 0, j, z, h, hj => by
    simp at h
    subst h
    rw [zcs, List.flatMap_cons, Nat.zero_mul, Nat.zero_add, List.getElem?_append_left (by rw [zc_length]; exact hj)]
  | x :: l, k + 1, j, z, h, hj => by
    simp at h
    rw [zcs, List.flatMap_cons, List.getElem?_append_right (by rw [zc_length]; omega), zc_length, show (k + 1) * 8 + j - 8 = k * 8 + j by omega]
    exact zcs_at h hj
/-- A zone of a slice of them. -/
theorem Reads.zone {w : World} {B n : Nat} {A : Option Addr} {l : List Zn} (h : Reads w B 8 A n (zcs l)) {k : Nat} {z : Zn} (hv : l[k]? = some z) :
    ∃ b o, A = some ⟨b, o, none⟩ ∧ b < B ∧ ∀ j, j < 8 → w.cell? ⟨b, o + k * 8 + j, none⟩ = (zc z)[j]? := by
  have hk : k < l.length := (List.getElem?_eq_some_iff.1 hv).1
  have hn : 0 < n := by have := h.1; rw [zcs_length] at this; omega
  obtain ⟨⟨b, o, sp⟩, rfl, hb, hc⟩ := h.2 hn
  have hl : 0 < (zcs l).length := by rw [zcs_length]; omega
  obtain rfl : sp = none := by simpa [Addr.add] using World.cell?_spot (hc 0 _ (List.getElem?_eq_getElem hl))
  refine ⟨b, o, rfl, hb, fun j hj => ?_⟩
  have h1 := zcs_at hv hj
  have h2 : (zc z)[j]? = some ((zc z)[j]'(by rw [zc_length]; exact hj)) := List.getElem?_eq_getElem _
  have h3 := hc _ _ (h1.trans h2)
  rw [plain_add] at h3
  rw [h2, ← h3, Nat.add_assoc]
/-- What the walk is told of zones that came in. -/
def IsZones (w : World) (a : Option Addr) (len cap : Nat) (l : List Zn) : Prop :=
  l.length = len ∧ len ≤ cap ∧ cap ≤ maxLen ∧ Reads w w.heap.size 8 a len (zcs l) ∧ ∀ z ∈ l, In64 z.1
theorem cellsZn : Tryd.prog.cellsOf 39 = 8 := by kernel_rfl
theorem cellsInt1 : Tryd.prog.cellsOf 3 = 1 := by kernel_rfl
theorem cellsBool1 : Tryd.prog.cellsOf 4 = 1 := by kernel_rfl
section
variable {H : Type} {enc : TypeId × Value → H} {W : World}
theorem zone_cells {n : Nat} {cs : List Value} {x : DataW H × List MemPlace} (h : DataW.trod enc Tryd.prog W 0 (fun _ => true) true n 39 cs = some x) : ∃ z : Zn, cs = zc z ∧ In64 z.1 := by
  obtain ⟨ys, m, rfl, _, hlen, hyl, hf⟩ := DataW.trod_struct Tryd.underlying39 h
  rw [cellsZn] at hlen
  have hyl' : ys.length = 4 := hyl
  have f0 := hf 0 _ rfl
  have f1 := hf 1 _ rfl
  have f2 := hf 2 _ rfl
  have f3 := hf 3 _ rfl
  change DataW.trod _ _ _ _ _ _ _ 3 ((cs.drop 0).take (Tryd.prog.cellsOf 3)) = _ at f0
  change DataW.trod _ _ _ _ _ _ _ 4 ((cs.drop 1).take (Tryd.prog.cellsOf 4)) = _ at f1
  change DataW.trod _ _ _ _ _ _ _ 37 ((cs.drop 2).take (Tryd.prog.cellsOf 37)) = _ at f2
  change DataW.trod _ _ _ _ _ _ _ 37 ((cs.drop 5).take (Tryd.prog.cellsOf 37)) = _ at f3
  rw [cellsInt1, List.getElem?_eq_getElem (by omega)] at f0
  rw [cellsBool1, List.getElem?_eq_getElem (by omega)] at f1
  rw [cellsVl, List.getElem?_eq_getElem (by omega)] at f2 f3
  obtain ⟨k, e0, _, wk⟩ := DataW.trod_int Tryd.underlying3 f0
  obtain ⟨bb, e1, _⟩ := DataW.trod_bool Tryd.underlying4 f1
  obtain ⟨v2, e2, _⟩ := val_cells f2
  obtain ⟨v3, e3, _⟩ := val_cells f3
  refine ⟨(k, bb, v2, v3), ?_, by have := i64_of wk; show In64 k; unfold In64; omega⟩
  match cs, hlen, e0, e1, e2, e3 with
  | [a, b, c, d, e, f, g, i], _, e0, e1, e2, e3 =>
    simp only [List.drop_zero, List.drop_succ_cons, List.take_succ_cons, List.take_zero] at e0 e1 e2 e3
    injection e0 with e0 _
    injection e1 with e1 _
    unfold vc at e2 e3
    simp only [List.cons.injEq, and_true] at e2 e3
    obtain ⟨g1, g2, g3⟩ := e2
    obtain ⟨g4, g5, g6⟩ := e3
    rw [e0, e1, g1, g2, g3, g4, g5, g6]
    rfl
theorem zones_of {a : Option Addr} {len cap : Nat} {d : DataW H} {p : List MemPlace} (h : DataW.Trod enc Tryd.prog W 0 (fun _ => true) true 34 (.slice a len cap) d p) :
    ∃ l, IsZones W a len cap l := by
  obtain ⟨fuel, hf⟩ := h
  rcases DataW.trod_slice Tryd.underlying34 hf with ⟨e, _⟩ | ⟨x, n, c, elems, rest, m, hm, e, _, hb, hl, hcm, hel, hat, _, _⟩
  · simp [Value.cells] at e
    obtain ⟨rfl, rfl, rfl⟩ := e
    exact ⟨[], rfl, Nat.le_refl _, Nat.zero_le _, Reads.none_, by simp⟩
  · simp [Value.cells] at e
    obtain ⟨rfl, rfl, rfl⟩ := e
    have hall : ∀ j, ∃ z : Zn, j < len → W.cells? 0 (x.add (j * 8)) 8 = some (zc z) ∧ In64 z.1 := by
      intro j
      by_cases hj : j < len
      · have h1 := hat j hj
        rw [cellsZn, List.getElem?_eq_getElem (by omega)] at h1
        obtain ⟨cs', hc, ht⟩ := Option.bind_eq_some_iff.1 h1
        obtain ⟨z, rfl, hz⟩ := zone_cells ht
        exact ⟨z, fun _ => ⟨hc, hz⟩⟩
      · exact ⟨zNone, fun h => absurd h hj⟩
    obtain ⟨F, hF⟩ := Classical.axiomOfChoice hall
    have hus : ∀ j, j < len → ∀ i, i < 8 → W.cell? ((x.add (j * 8)).add i) = (zc (F j))[i]? := fun j hj i hi => by
      obtain ⟨_, _, h2⟩ := World.cells?_some (hF j hj).1
      exact h2 i hi
    refine ⟨(List.range len).map F, by simp, hl, hcm, ⟨by rw [zcs_length]; simp, fun hn => ⟨x, rfl, ?_, fun j u hu => ?_⟩⟩, fun z hz => ?_⟩
    · have h3 := hus 0 hn 0 (by omega)
      have := World.block_lt_of_cell? W _ (h3.trans (List.getElem?_eq_getElem (by rw [zc_length]; omega)))
      rwa [block_of_add, block_of_add] at this
    · have hj : j < len * 8 := by
        have := (List.getElem?_eq_some_iff.1 hu).1
        rw [zcs_length] at this
        simpa using this
      have hk : j / 8 < len := by omega
      have hu' : ((List.range len).map F)[j / 8]? = some (F (j / 8)) := by rw [List.getElem?_map, List.getElem?_range hk]; rfl
      have h5 := zcs_at hu' (j := j % 8) (by omega)
      rw [show j / 8 * 8 + j % 8 = j by omega, hu] at h5
      have h6 := hus (j / 8) hk (j % 8) (by omega)
      rw [Go.Deep.add_add, show j / 8 * 8 + j % 8 = j by omega] at h6
      rw [h6, ← h5]
    · obtain ⟨j, hj, rfl⟩ := List.mem_map.1 hz
      exact (hF j (List.mem_range.1 hj)).2
end
end Go.Proofs.YtmjpjllbfgkfbaaDoor

/- A value that is handed over by value. No program; no condition. -/
namespace Go.Proofs.YtmjpjllbfgkfbaaDoor
open Go.RowKit
/-- A value handed over. -/
def vW (v : Vl) : Value := .agg #[.int .i64 v.1, .int .i64 v.2.1, .string ⟨v.2.2.toArray⟩]
end Go.Proofs.YtmjpjllbfgkfbaaDoor

/- The program's order of values, told by a contract. -/
namespace Go.Proofs.YtmjpjllbfgkfbaaDoor
open Go.RowKit
set_option linter.unusedVariables false
set_option linter.unusedSimpArgs false
set_option maxRecDepth 100000

/-- The program's order of values is the document's. -/
def CmpC : Prop := ∀ (a b : Vl) (w : World), Calls Tryd.prog 19 #[vW a, vW b] w fun e w' => e = .returned (.int .i64 (cmpV a b)) ∧ Below w.heap.size w w'
end Go.Proofs.YtmjpjllbfgkfbaaDoor

/- How the model orders texts: the laws of '>=' and '<=' on them, and their order as a truth. No program, no condition. -/
namespace Go.Proofs.YtmjpjllbfgkfbaaDoor
open Go.RowKit
theorem dec_tlt (a b : Tx) : decide (tlt a b) = Op.bytesLess a b := by rw [Bool.eq_iff_iff, decide_eq_true_iff]; exact Iff.rfl
theorem less_of {a b : Tx} (h : tlt a b) : Op.bytesLess a b = true := h
theorem less_not {a b : Tx} (h : ¬ tlt a b) : Op.bytesLess a b = false := by rw [← dec_tlt]; simp [h]
theorem binOp_geq_tx (t : TypeId) (a b : List UInt8) : binOp .geq t (.string ⟨a.toArray⟩) (.string ⟨b.toArray⟩) = pure (.bool !(decide (tlt a b))) := by
  rw [dec_tlt]; simp [binOp, Op.stringOp]
theorem binOp_leq_tx (t : TypeId) (a b : List UInt8) : binOp .leq t (.string ⟨a.toArray⟩) (.string ⟨b.toArray⟩) = pure (.bool !(decide (tlt b a))) := by
  have h : (Op.bytesLess a b || a == b) = !(decide (tlt b a)) := by
    by_cases h1 : tlt a b
    · rw [less_of h1, show decide (tlt b a) = false by simp [tlt_asymm h1]]; rfl
    · rw [less_not h1]
      by_cases h2 : a = b
      · subst h2
        rw [show decide (tlt a a) = false by simp [tlt_irrefl a]]; simp
      · rw [show decide (tlt b a) = true by simp [tlt_total h1 h2]]; simp [h2]
  rw [← h]; simp [binOp, Op.stringOp]
end Go.Proofs.YtmjpjllbfgkfbaaDoor

/- The order of texts, by ">". No program; no condition. -/
namespace Go.Proofs.YtmjpjllbfgkfbaaDoor
open Go.RowKit
set_option linter.unusedVariables false
set_option linter.unusedSimpArgs false
set_option maxRecDepth 100000

theorem binOp_gtr_tx (t : TypeId) (a b : List UInt8) : binOp .gtr t (.string ⟨a.toArray⟩) (.string ⟨b.toArray⟩) = pure (.bool (decide (tlt b a))) := by
  have h : (!(Op.bytesLess a b || a == b)) = decide (tlt b a) := by
    by_cases h1 : tlt a b
    · rw [less_of h1, show decide (tlt b a) = false by simp [tlt_asymm h1]]; rfl
    · rw [less_not h1]
      by_cases h2 : a = b
      · subst h2
        rw [show decide (tlt a a) = false by simp [tlt_irrefl a]]; simp
      · rw [show decide (tlt b a) = true by simp [tlt_total h1 h2]]; simp [h2]
  rw [← h]; simp [binOp, Op.stringOp]
end Go.Proofs.YtmjpjllbfgkfbaaDoor

/- Contracts of the library's cmp.Compare (over int, int64, string) and of package value's Cmp: the order of values. Nothing that was there changes. -/
namespace Go.Proofs.YtmjpjllbfgkfbaaDoor
open Go.RowKit
set_option linter.unusedVariables false
set_option linter.unusedSimpArgs false
set_option maxRecDepth 100000
attribute [local go_sem] binOp_gtr_tx

/-- The order of numbers, of texts. -/
def cmpI (x y : Int) : Int := if x < y then -1 else if y < x then 1 else 0
def cmpT (x y : Tx) : Int := if tlt x y then -1 else if tlt y x then 1 else 0
theorem cmpV_is (a b : Vl) : cmpV a b = if a.1 = b.1 then (if a.1 = 1 then cmpI a.2.1 b.2.1 else if a.1 = 2 then cmpT a.2.2 b.2.2 else 0) else cmpI a.1 b.1 := by
  unfold cmpI cmpT
  rcases cmp_cases a b with ⟨h, e⟩ | ⟨h, e⟩ | ⟨h0, ⟨k, ⟨h, e⟩ | ⟨h, e⟩ | ⟨h, e⟩⟩ | ⟨k, ⟨h, e⟩ | ⟨h, e⟩ | ⟨h, e⟩⟩ | ⟨k1, k2, e⟩⟩
  · rw [e, if_neg (by omega), if_pos h]
  · rw [e, if_neg (by omega), if_neg (by omega), if_pos h]
  · rw [e, if_pos h0, if_pos k, if_pos h]
  · rw [e, if_pos h0, if_pos k, if_neg (by omega), if_pos h]
  · rw [e, if_pos h0, if_pos k, if_neg (by omega), if_neg (by omega)]
  · rw [e, if_pos h0, if_neg (by omega), if_pos k, if_pos h]
  · rw [e, if_pos h0, if_neg (by omega), if_pos k, if_neg (tlt_asymm h), if_pos h]
  · rw [e, if_pos h0, if_neg (by omega), if_pos k, h, if_neg (tlt_irrefl _), if_neg (tlt_irrefl _)]
  · rw [e, if_pos h0, if_neg k1, if_neg k2]
theorem isNaN_int (x : Int) (w : World) : Calls Tryd.prog 36 #[.int .i64 x] w fun e w' => e = .returned (.bool false) ∧ w = w' := by
  go_enter Tryd.func36, Tryd.ntmps36
  go_wp2_with fail
  go_ret
  exact ⟨by first | rfl | simp, rfl⟩
theorem isNaN_int64 (x : Int) (w : World) : Calls Tryd.prog 37 #[.int .i64 x] w fun e w' => e = .returned (.bool false) ∧ w = w' := by
  go_enter Tryd.func37, Tryd.ntmps37
  go_wp2_with fail
  go_ret
  exact ⟨by first | rfl | simp, rfl⟩
theorem isNaN_tx (x : Tx) (w : World) : Calls Tryd.prog 38 #[.string ⟨x.toArray⟩] w fun e w' => e = .returned (.bool false) ∧ w = w' := by
  go_enter Tryd.func38, Tryd.ntmps38
  go_wp2_with fail
  go_ret
  exact ⟨by first | rfl | simp, rfl⟩
theorem compare_int (x y : Int) (w : World) : Calls Tryd.prog 24 #[.int .i64 x, .int .i64 y] w fun e w' => e = .returned (.int .i64 (cmpI x y)) ∧ w = w' := by
  obtain ⟨r, hr⟩ : ∃ r, cmpI x y = r := ⟨_, rfl⟩
  rw [hr]
  unfold cmpI at hr
  have H1 := Lib.hid (isNaN_int x); have H2 := Lib.hid (isNaN_int y)
  go_enter Tryd.func24, Tryd.ntmps24
  go_wp2_with fail
  refine (H1.out _).mono ?_
  rintro e w' ⟨rfl, rfl⟩
  go_wp2_with fail
  refine (H2.out _).mono ?_
  rintro e w' ⟨rfl, rfl⟩
  by_cases h1 : x < y
  · rw [if_pos h1] at hr
    subst hr
    go_wp2_with fail
    go_ret
    exact ⟨rfl, rfl⟩
  · rw [if_neg h1] at hr
    by_cases h2 : y < x
    · rw [if_pos h2] at hr
      subst hr
      go_wp2_with fail
      go_ret
      exact ⟨rfl, rfl⟩
    · rw [if_neg h2] at hr
      subst hr
      go_wp2_with fail
      go_ret
      exact ⟨rfl, rfl⟩
theorem compare_int64 (x y : Int) (w : World) : Calls Tryd.prog 25 #[.int .i64 x, .int .i64 y] w fun e w' => e = .returned (.int .i64 (cmpI x y)) ∧ w = w' := by
  obtain ⟨r, hr⟩ : ∃ r, cmpI x y = r := ⟨_, rfl⟩
  rw [hr]
  unfold cmpI at hr
  have H1 := Lib.hid (isNaN_int64 x); have H2 := Lib.hid (isNaN_int64 y)
  go_enter Tryd.func25, Tryd.ntmps25
  go_wp2_with fail
  refine (H1.out _).mono ?_
  rintro e w' ⟨rfl, rfl⟩
  go_wp2_with fail
  refine (H2.out _).mono ?_
  rintro e w' ⟨rfl, rfl⟩
  by_cases h1 : x < y
  · rw [if_pos h1] at hr
    subst hr
    go_wp2_with fail
    go_ret
    exact ⟨rfl, rfl⟩
  · rw [if_neg h1] at hr
    by_cases h2 : y < x
    · rw [if_pos h2] at hr
      subst hr
      go_wp2_with fail
      go_ret
      exact ⟨rfl, rfl⟩
    · rw [if_neg h2] at hr
      subst hr
      go_wp2_with fail
      go_ret
      exact ⟨rfl, rfl⟩
theorem compare_tx (x y : Tx) (w : World) : Calls Tryd.prog 26 #[.string ⟨x.toArray⟩, .string ⟨y.toArray⟩] w fun e w' => e = .returned (.int .i64 (cmpT x y)) ∧ w = w' := by
  obtain ⟨r, hr⟩ : ∃ r, cmpT x y = r := ⟨_, rfl⟩
  rw [hr]
  unfold cmpT at hr
  have H1 := Lib.hid (isNaN_tx x); have H2 := Lib.hid (isNaN_tx y)
  go_enter Tryd.func26, Tryd.ntmps26
  go_wp2_with fail
  refine (H1.out _).mono ?_
  rintro e w' ⟨rfl, rfl⟩
  go_wp2_with fail
  refine (H2.out _).mono ?_
  rintro e w' ⟨rfl, rfl⟩
  by_cases h1 : tlt x y
  · rw [if_pos h1] at hr
    subst hr
    have l1 := less_of h1
    have g1 : decide (tlt x y) = true := by simp [h1]
    clear h1
    go_wp2_with fail
    go_ret
    exact ⟨rfl, rfl⟩
  · rw [if_neg h1] at hr
    have l1 := less_not h1
    have g1 : decide (tlt x y) = false := by simp [h1]
    by_cases h2 : tlt y x
    · rw [if_pos h2] at hr
      subst hr
      have g2 : decide (tlt y x) = true := by simp [h2]
      clear h1 h2
      go_wp2_with fail
      go_ret
      exact ⟨rfl, rfl⟩
    · rw [if_neg h2] at hr
      subst hr
      have g2 : decide (tlt y x) = false := by simp [h2]
      clear h1 h2
      go_wp2_with fail
      go_ret
      exact ⟨rfl, rfl⟩
set_option maxHeartbeats 1000000 in
theorem cmpC_any : CmpC := by
  intro a b w
  have hR := cmpV_is a b
  obtain ⟨r, hr⟩ : ∃ r, cmpV a b = r := ⟨_, rfl⟩
  rw [hr] at hR ⊢
  obtain ⟨a0, a1, za⟩ := a
  obtain ⟨b0, b1, zb⟩ := b
  simp only at hR
  clear hr
  unfold vW
  simp only
  have hB : Below w.heap.size w ((w.alloc (.cells #[.int .i64 a0, .int .i64 a1, .string ⟨za.toArray⟩] 37)).alloc (.cells #[.int .i64 b0, .int .i64 b1, .string ⟨zb.toArray⟩] 37)) :=
    ((Below.refl _ _).alloc (Nat.le_refl _) _).alloc (by simp) _
  by_cases h0 : a0 = b0
  · subst h0
    rw [if_pos rfl] at hR
    by_cases k1 : a0 = 1
    · subst k1
      rw [if_pos rfl] at hR
      subst hR
      have H := Lib.hid (compare_int64 a1 b1)
      go_enter Tryd.func19, Tryd.ntmps19
      go_wp2_with fail
      refine (H.out _).mono ?_
      rintro e w' ⟨rfl, rfl⟩
      go_wp2_with fail
      go_ret
      exact ⟨rfl, hB⟩
    · by_cases k2 : a0 = 2
      · subst k2
        rw [if_neg (by decide), if_pos rfl] at hR
        subst hR
        have H := Lib.hid (compare_tx za zb)
        go_enter Tryd.func19, Tryd.ntmps19
        go_wp2_with fail
        refine (H.out _).mono ?_
        rintro e w' ⟨rfl, rfl⟩
        go_wp2_with fail
        go_ret
        exact ⟨rfl, hB⟩
      · rw [if_neg k1, if_neg k2] at hR
        subst hR
        have q1 : (a0 == 1) = false := by simp [k1]
        have q2 : (a0 == 2) = false := by simp [k2]
        clear k1 k2
        go_enter Tryd.func19, Tryd.ntmps19
        go_wp2_with fail
        go_ret
        exact ⟨rfl, hB⟩
  · rw [if_neg h0] at hR
    subst hR
    have q1 : (a0 != b0) = true := by simp [h0]
    have H := Lib.hid (compare_int a0 b0)
    clear h0
    go_enter Tryd.func19, Tryd.ntmps19
    go_wp2_with fail
    refine (H.out _).mono ?_
    rintro e w' ⟨rfl, rfl⟩
    go_wp2_with fail
    go_ret
    exact ⟨rfl, hB⟩
end Go.Proofs.YtmjpjllbfgkfbaaDoor

/- Contracts of ofOthers' own tests: ahead, within both ends, the only one. -/
namespace Go.Proofs.YtmjpjllbfgkfbaaDoor
open Go.RowKit
set_option linter.unusedVariables false
set_option linter.unusedSimpArgs false
set_option maxRecDepth 100000

theorem ahead_any (a b : Vl) (w : World) : Calls Tryd.prog 51 #[vW a, vW b] w fun e w' => e = .returned (.bool (ahV a b)) ∧ Below w.heap.size w w' := by
  have HC := Lib.hid fun (W : World) => cmpC_any a b W
  obtain ⟨a0, a1, za⟩ := a
  obtain ⟨b0, b1, zb⟩ := b
  unfold ahV
  obtain ⟨k, hk⟩ : ∃ k, cmpV (a0, a1, za) (b0, b1, zb) = k := ⟨_, rfl⟩
  rw [hk] at HC ⊢
  simp only [vW] at HC ⊢
  clear hk
  go_enter Tryd.func51, Tryd.ntmps51
  go_wp2_with fail
  refine (HC.out _).mono ?_
  rintro e w1 ⟨rfl, hb⟩
  go_wp2_with fail
  go_ret
  exact ⟨rfl, (((Below.refl w.heap.size w).alloc (Nat.le_refl _) _).alloc (by simp) _).trans (hb.mono (by simp; omega))⟩
/-- What the tests capture: the first of them, the least, the greatest. -/
structure Ends (w : World) (h m g : Nat) (mn mx : Vl) : Prop where
  fn : Blk w h 101 #[.func (.func 51) #[] #[]]
  mn : Blk w m 37 #[.int .i64 mn.1, .int .i64 mn.2.1, .string ⟨mn.2.2.toArray⟩]
  mx : Blk w g 37 #[.int .i64 mx.1, .int .i64 mx.2.1, .string ⟨mx.2.2.toArray⟩]
theorem Ends.next {w w' : World} {h m g : Nat} {mn mx : Vl} (c : Ends w h m g mn mx) (hb : Below w.heap.size w w') : Ends w' h m g mn mx := ⟨c.fn.below hb c.fn.lt, c.mn.below hb c.mn.lt, c.mx.below hb c.mx.lt⟩
section
variable {w : World} {h m g : Nat} {mn mx : Vl}
set_option maxHeartbeats 1000000 in
theorem within_any (u : Vl) (hC : Ends w h m g mn mx) :
    Calls Tryd.prog 52 #[vW u, .pointer (some ⟨h, 0, none⟩), .pointer (some ⟨m, 0, none⟩), .pointer (some ⟨g, 0, none⟩)] w fun e w' => e = .returned (.bool (wiZ mn mx u)) ∧ Below w.heap.size w w' := by
  have H1 := Lib.hid fun (W : World) => ahead_any u mn W
  have H2 := Lib.hid fun (W : World) => ahead_any mx u W
  obtain ⟨u0, u1, zu⟩ := u
  obtain ⟨m0, m1, zm⟩ := mn
  obtain ⟨n0, n1, zn⟩ := mx
  unfold wiZ
  obtain ⟨a, ha⟩ : ∃ a, ahV (u0, u1, zu) (m0, m1, zm) = a := ⟨_, rfl⟩
  obtain ⟨b, hb⟩ : ∃ b, ahV (n0, n1, zn) (u0, u1, zu) = b := ⟨_, rfl⟩
  rw [ha] at H1 ⊢
  rw [hb] at H2 ⊢
  simp only [vW] at H1 H2 ⊢
  have hbx : Below w.heap.size w (w.alloc (.cells #[.int .i64 u0, .int .i64 u1, .string ⟨zu.toArray⟩] 37)) := (Below.refl _ _).alloc (Nat.le_refl _) _
  have hk := Blk.new w 37 #[.int .i64 u0, .int .i64 u1, .string ⟨zu.toArray⟩]
  have h1 := hC.next hbx
  have HB := Lib.hid hbx; have HK := Lib.hid hk; have HE := Lib.hid h1
  obtain ⟨x0, x1, x2⟩ := blk3 hk
  have e0 := h1.fn.cell 0
  obtain ⟨y0, y1, y2⟩ := blk3 h1.mn
  obtain ⟨z0, z1, z2⟩ := blk3 h1.mx
  clear ha hb hC hbx hk h1
  cases a
  · go_enter Tryd.func52, Tryd.ntmps52
    go_wp2_with fail
    refine (H1.out _).mono ?_
    rintro e w1 ⟨rfl, hb⟩
    have h2 := HE.out.next hb
    clear x0 x1 x2 e0 y0 y1 y2 z0 z1 z2
    obtain ⟨x0, x1, x2⟩ := blk3 (HK.out.below hb HK.out.lt)
    have e0 := h2.fn.cell 0
    obtain ⟨z0, z1, z2⟩ := blk3 h2.mx
    have hb1 := Lib.hid (HB.out.trans (hb.mono HB.out.size))
    clear h2 HB HK HE hb
    go_wp2_with fail
    refine (H2.out _).mono ?_
    rintro e w2 ⟨rfl, hb⟩
    go_wp2_with fail
    go_ret
    exact ⟨by first | rfl | simp, hb1.out.trans (hb.mono hb1.out.size)⟩
  · go_enter Tryd.func52, Tryd.ntmps52
    go_wp2_with fail
    refine (H1.out _).mono ?_
    rintro e w1 ⟨rfl, hb⟩
    go_wp2_with fail
    go_ret
    exact ⟨by first | rfl | simp, HB.out.trans (hb.mono HB.out.size)⟩
set_option maxHeartbeats 1000000 in
theorem alone_any (u : Vl) (hC : Ends w h m g mn mx) :
    Calls Tryd.prog 53 #[vW u, .pointer (some ⟨m, 0, none⟩), .pointer (some ⟨g, 0, none⟩)] w fun e w' => e = .returned (.bool (alZ mn mx u)) ∧ Below w.heap.size w w' := by
  have H1 := Lib.hid fun (W : World) => cmpC_any mn u W
  have H2 := Lib.hid fun (W : World) => cmpC_any mx u W
  obtain ⟨u0, u1, zu⟩ := u
  obtain ⟨m0, m1, zm⟩ := mn
  obtain ⟨n0, n1, zn⟩ := mx
  unfold alZ
  obtain ⟨a, ha⟩ : ∃ a, cmpV (m0, m1, zm) (u0, u1, zu) = a := ⟨_, rfl⟩
  obtain ⟨b, hb⟩ : ∃ b, cmpV (n0, n1, zn) (u0, u1, zu) = b := ⟨_, rfl⟩
  rw [ha] at H1 ⊢
  rw [hb] at H2 ⊢
  simp only [vW] at H1 H2 ⊢
  have hbx : Below w.heap.size w (w.alloc (.cells #[.int .i64 u0, .int .i64 u1, .string ⟨zu.toArray⟩] 37)) := (Below.refl _ _).alloc (Nat.le_refl _) _
  have hk := Blk.new w 37 #[.int .i64 u0, .int .i64 u1, .string ⟨zu.toArray⟩]
  have h1 := hC.next hbx
  have HB := Lib.hid hbx; have HK := Lib.hid hk; have HE := Lib.hid h1
  obtain ⟨x0, x1, x2⟩ := blk3 hk
  obtain ⟨y0, y1, y2⟩ := blk3 h1.mn
  obtain ⟨z0, z1, z2⟩ := blk3 h1.mx
  clear ha hb hC hbx hk h1
  by_cases hz : a = 0
  · have d1 : decide (a = 0) = true := by simpa using hz
    have d2 : (a == 0) = true := by simpa using hz
    rw [d1]
    have hq : (b == 0) = decide (b = 0) := by rw [Bool.eq_iff_iff]; simp
    obtain ⟨q, hq2⟩ : ∃ q, decide (b = 0) = q := ⟨_, rfl⟩
    rw [hq2] at hq ⊢
    clear hz d1 hq2
    go_enter Tryd.func53, Tryd.ntmps53
    go_wp2_with fail
    refine (H1.out _).mono ?_
    rintro e w1 ⟨rfl, hb⟩
    have h2 := HE.out.next hb
    clear x0 x1 x2 y0 y1 y2 z0 z1 z2
    obtain ⟨x0, x1, x2⟩ := blk3 (HK.out.below hb HK.out.lt)
    obtain ⟨z0, z1, z2⟩ := blk3 h2.mx
    have hb1 := Lib.hid (HB.out.trans (hb.mono HB.out.size))
    clear h2 HB HK HE hb
    go_wp2_with fail
    refine (H2.out _).mono ?_
    rintro e w2 ⟨rfl, hb⟩
    go_wp2_with fail
    go_ret
    exact ⟨by first | rfl | simp, hb1.out.trans (hb.mono hb1.out.size)⟩
  · have d1 : decide (a = 0) = false := by simpa using hz
    have d2 : (a == 0) = false := by simpa using hz
    rw [d1]
    clear hz d1
    go_enter Tryd.func53, Tryd.ntmps53
    go_wp2_with fail
    refine (H1.out _).mono ?_
    rintro e w1 ⟨rfl, hb⟩
    go_wp2_with fail
    go_ret
    exact ⟨by first | rfl | simp, HB.out.trans (hb.mono HB.out.size)⟩
end
end Go.Proofs.YtmjpjllbfgkfbaaDoor

/- The first place of a list of which a test is true. No program; no condition. -/
namespace Go.Proofs.YtmjpjllbfgkfbaaDoor
open Go.RowKit
set_option linter.unusedVariables false
set_option linter.unusedSimpArgs false
set_option maxRecDepth 100000

/-- The first place of which the test is true: all ahead of it are false. -/
def FstP (l : List Vl) (p : Vl → Bool) (K : Nat) : Prop := K ≤ l.length ∧ ∀ j u, l[j]? = some u → (j < K → p u = false) ∧ (j = K → p u = true)
theorem fstP_is (l : List Vl) (p : Vl → Bool) : ∃ K, FstP l p K ∧ (decide (K < l.length) = l.any p) := by
  induction l with
  | nil => exact ⟨0, ⟨Nat.le_refl _, fun j u h => by simp at h⟩, rfl⟩
  | cons v l ih =>
    cases hv : p v with
    | true =>
      refine ⟨0, ⟨Nat.zero_le _, fun j u h => ⟨fun h0 => absurd h0 (by omega), fun h0 => ?_⟩⟩, by simp [hv]⟩
      subst h0
      simp at h
      rw [← h]; exact hv
    | false =>
      obtain ⟨K, ⟨h1, h2⟩, h3⟩ := ih
      refine ⟨K + 1, ⟨by simp; omega, fun j u h => ?_⟩, by simp [hv, ← h3]⟩
      cases j with
      | zero =>
        simp at h
        refine ⟨fun _ => by rw [← h]; exact hv, fun e => by omega⟩
      | succ j =>
        simp at h
        exact ⟨fun e => (h2 j u h).1 (by omega), fun e => (h2 j u h).2 (by omega)⟩
end Go.Proofs.YtmjpjllbfgkfbaaDoor

/- Contracts of the library's slices.IndexFunc and ContainsFunc over values with ofOthers' own tests. -/
namespace Go.Proofs.YtmjpjllbfgkfbaaDoor
open Go.RowKit
set_option linter.unusedVariables false
set_option linter.unusedSimpArgs false
set_option maxRecDepth 100000

section
variable {w : World} {h m g : Nat} {mn mx : Vl}
set_option maxHeartbeats 1000000 in
theorem indexWi (A : Option Addr) (n c K : Nat) (l : List Vl) (hr : Reads w w.heap.size 3 A n (vs l)) (hn : n ≤ 65536) (hK : FstP l (wiZ mn mx) K) (hC : Ends w h m g mn mx) :
    Calls Tryd.prog 55 #[.slice A n c, .func (.func 52) #[] #[.pointer (some ⟨h, 0, none⟩), .pointer (some ⟨m, 0, none⟩), .pointer (some ⟨g, 0, none⟩)]] w fun e w' => e = .returned (.int .i64 (if K < n then (K : Int) else -1)) ∧ Below w.heap.size w w' := by
  have e1 : l.length = n := by have := hr.1; rw [vs_length] at this; omega
  obtain ⟨hKl, hKp⟩ := hK
  rw [e1] at hKl
  have HF := Lib.hid fun (u : Vl) (W : World) (hb : Below w.heap.size w W) => within_any u (hC.next hb)
  have HP := Lib.hid hKp; have HE := Lib.hid e1
  obtain ⟨res, hres⟩ : ∃ res : Int, res = if K < n then (K : Int) else -1 := ⟨_, rfl⟩
  rw [← hres]
  have HR := Lib.hid hres
  clear hKp e1 hres hC
  go_enter Tryd.func55, Tryd.ntmps55
  go_wp2_with fail
  go_loopw [8] (fun s wr => ∃ k : Nat, k ≤ K ∧ s = .int .i64 (k : Int) ∧ Below w.heap.size w wr) (fun i _ => n - (intOf i).toNat)
  case atStart => exact ⟨0, Nat.zero_le _, rfl, Below.refl _ _⟩
  case round =>
    obtain ⟨k, hk, rfl, hb⟩ := hrel
    by_cases hlt : k < n
    · obtain ⟨⟨v0, v1, v2⟩, hv⟩ : ∃ v, l[k]? = some v := ⟨_, List.getElem?_eq_getElem (by rw [HE.out]; exact hlt)⟩
      obtain ⟨b, o, rfl, hb0, x0, x1, x2⟩ := (hr.below hb).val hv
      have hc := HF.out (v0, v1, v2) wr hb
      have hp := HP.out k _ hv
      unfold vW at hc
      by_cases hkK : k < K
      · rw [hp.1 hkK] at hc
        have HC := Lib.hid hc
        clear hc hp hv
        go_wp2_with fail
        refine HC.out.mono ?_
        rintro e w2 ⟨rfl, hb2⟩
        go_wp2_with fail
        go_round
        case rel => exact ⟨k + 1, by omega, by go_num, hb.trans (hb2.mono hb.size)⟩
        case measure => simp [intOf]; omega
      · obtain rfl : k = K := by omega
        rw [hp.2 rfl] at hc
        have HC := Lib.hid hc
        clear hc hp hv
        go_wp2_with fail
        refine HC.out.mono ?_
        rintro e w2 ⟨rfl, hb2⟩
        go_wp2_with fail
        go_ret
        exact ⟨by rw [HR.out, if_pos hlt]; rfl, hb.trans (hb2.mono hb.size)⟩
    · go_wp2_with fail
      go_ret
      exact ⟨by rw [HR.out, if_neg (by omega)]; rfl, hb⟩
theorem containsWi (A : Option Addr) (n c : Nat) (l : List Vl) (hr : Reads w w.heap.size 3 A n (vs l)) (hn : n ≤ 65536) (hC : Ends w h m g mn mx) :
    Calls Tryd.prog 54 #[.slice A n c, .func (.func 52) #[] #[.pointer (some ⟨h, 0, none⟩), .pointer (some ⟨m, 0, none⟩), .pointer (some ⟨g, 0, none⟩)]] w fun e w' => e = .returned (.bool (l.any (wiZ mn mx))) ∧ Below w.heap.size w w' := by
  have e1 : l.length = n := by have := hr.1; rw [vs_length] at this; omega
  obtain ⟨K, hK, hany⟩ := fstP_is l (wiZ mn mx)
  have HI := Lib.hid (indexWi A n c K l hr hn hK hC)
  rw [e1] at hany
  obtain ⟨b, hb⟩ : ∃ b, (l.any (wiZ mn mx)) = b := ⟨_, rfl⟩
  rw [hb] at hany ⊢
  clear hr hK hC hb e1
  by_cases hlt : K < n
  case' pos =>
    rw [if_pos hlt] at HI
    have d1 : decide (0 ≤ (K : Int)) = true := by simp
    have hR : b = true := by rw [← hany]; simp [hlt]
  case' neg =>
    rw [if_neg hlt] at HI
    have hR : b = false := by rw [← hany]; simp [hlt]
  all_goals
    subst hR
    clear hany
    go_enter Tryd.func54, Tryd.ntmps54
    go_wp2_with fail
    refine HI.out.mono ?_
    rintro e w' ⟨rfl, hb⟩
    go_wp2_with fail
    go_ret
    exact ⟨rfl, hb⟩
set_option maxHeartbeats 1000000 in
theorem indexAl (A : Option Addr) (n c K : Nat) (l : List Vl) (hr : Reads w w.heap.size 3 A n (vs l)) (hn : n ≤ 65536) (hK : FstP l (alZ mn mx) K) (hC : Ends w h m g mn mx) :
    Calls Tryd.prog 55 #[.slice A n c, .func (.func 53) #[] #[.pointer (some ⟨m, 0, none⟩), .pointer (some ⟨g, 0, none⟩)]] w fun e w' => e = .returned (.int .i64 (if K < n then (K : Int) else -1)) ∧ Below w.heap.size w w' := by
  have e1 : l.length = n := by have := hr.1; rw [vs_length] at this; omega
  obtain ⟨hKl, hKp⟩ := hK
  rw [e1] at hKl
  have HF := Lib.hid fun (u : Vl) (W : World) (hb : Below w.heap.size w W) => alone_any u (hC.next hb)
  have HP := Lib.hid hKp; have HE := Lib.hid e1
  obtain ⟨res, hres⟩ : ∃ res : Int, res = if K < n then (K : Int) else -1 := ⟨_, rfl⟩
  rw [← hres]
  have HR := Lib.hid hres
  clear hKp e1 hres hC
  go_enter Tryd.func55, Tryd.ntmps55
  go_wp2_with fail
  go_loopw [8] (fun s wr => ∃ k : Nat, k ≤ K ∧ s = .int .i64 (k : Int) ∧ Below w.heap.size w wr) (fun i _ => n - (intOf i).toNat)
  case atStart => exact ⟨0, Nat.zero_le _, rfl, Below.refl _ _⟩
  case round =>
    obtain ⟨k, hk, rfl, hb⟩ := hrel
    by_cases hlt : k < n
    · obtain ⟨⟨v0, v1, v2⟩, hv⟩ : ∃ v, l[k]? = some v := ⟨_, List.getElem?_eq_getElem (by rw [HE.out]; exact hlt)⟩
      obtain ⟨b, o, rfl, hb0, x0, x1, x2⟩ := (hr.below hb).val hv
      have hc := HF.out (v0, v1, v2) wr hb
      have hp := HP.out k _ hv
      unfold vW at hc
      by_cases hkK : k < K
      · rw [hp.1 hkK] at hc
        have HC := Lib.hid hc
        clear hc hp hv
        go_wp2_with fail
        refine HC.out.mono ?_
        rintro e w2 ⟨rfl, hb2⟩
        go_wp2_with fail
        go_round
        case rel => exact ⟨k + 1, by omega, by go_num, hb.trans (hb2.mono hb.size)⟩
        case measure => simp [intOf]; omega
      · obtain rfl : k = K := by omega
        rw [hp.2 rfl] at hc
        have HC := Lib.hid hc
        clear hc hp hv
        go_wp2_with fail
        refine HC.out.mono ?_
        rintro e w2 ⟨rfl, hb2⟩
        go_wp2_with fail
        go_ret
        exact ⟨by rw [HR.out, if_pos hlt]; rfl, hb.trans (hb2.mono hb.size)⟩
    · go_wp2_with fail
      go_ret
      exact ⟨by rw [HR.out, if_neg (by omega)]; rfl, hb⟩
theorem containsAl (A : Option Addr) (n c : Nat) (l : List Vl) (hr : Reads w w.heap.size 3 A n (vs l)) (hn : n ≤ 65536) (hC : Ends w h m g mn mx) :
    Calls Tryd.prog 54 #[.slice A n c, .func (.func 53) #[] #[.pointer (some ⟨m, 0, none⟩), .pointer (some ⟨g, 0, none⟩)]] w fun e w' => e = .returned (.bool (l.any (alZ mn mx))) ∧ Below w.heap.size w w' := by
  have e1 : l.length = n := by have := hr.1; rw [vs_length] at this; omega
  obtain ⟨K, hK, hany⟩ := fstP_is l (alZ mn mx)
  have HI := Lib.hid (indexAl A n c K l hr hn hK hC)
  rw [e1] at hany
  obtain ⟨b, hb⟩ : ∃ b, (l.any (alZ mn mx)) = b := ⟨_, rfl⟩
  rw [hb] at hany ⊢
  clear hr hK hC hb e1
  by_cases hlt : K < n
  case' pos =>
    rw [if_pos hlt] at HI
    have d1 : decide (0 ≤ (K : Int)) = true := by simp
    have hR : b = true := by rw [← hany]; simp [hlt]
  case' neg =>
    rw [if_neg hlt] at HI
    have hR : b = false := by rw [← hany]; simp [hlt]
  all_goals
    subst hR
    clear hany
    go_enter Tryd.func54, Tryd.ntmps54
    go_wp2_with fail
    refine HI.out.mono ?_
    rintro e w' ⟨rfl, hb⟩
    go_wp2_with fail
    go_ret
    exact ⟨rfl, hb⟩
end
end Go.Proofs.YtmjpjllbfgkfbaaDoor

/- A function value that is made. No condition. -/
namespace Go.Proofs.YtmjpjllbfgkfbaaDoor
open Go.RowKit
theorem hmfP (fn : Fn) (first cap : Array Value) (w : World) : (Instr.makeFunc fn first cap).run Tryd.prog w = .ok (.func fn first cap) w := by rfl
end Go.Proofs.YtmjpjllbfgkfbaaDoor

/- A predicate in memory as the tree that zone's steps goes through: only parts that count, the last one first. No program; no condition. -/
namespace Go.Proofs.YtmjpjllbfgkfbaaDoor
open Go.RowKit
set_option linter.unusedVariables false
set_option linter.unusedSimpArgs false
set_option maxRecDepth 100000

/-- Does a predicate's every part count? -/
abbrev okT (cols : Nat) (t : Tr) : Prop := okZ cols t.p.op t.p.col t.p.vals.length t.p.parts.length
mutual
def prT (cols : Nat) : Tr → Tr | .mk b o p l => .mk b o p (if okZ cols p.op p.col p.vals.length p.parts.length then prL cols l else [])
def prL (cols : Nat) : List Tr → List Tr
  | [] => []
  | t :: l => prL cols l ++ [prT cols t]
end
theorem prT_b (cols : Nat) (t : Tr) : (prT cols t).b = t.b := by cases t; rfl
theorem prT_o (cols : Nat) (t : Tr) : (prT cols t).o = t.o := by cases t; rfl
theorem prT_p (cols : Nat) (t : Tr) : (prT cols t).p = t.p := by cases t; rfl
theorem prT_kids (cols : Nat) (t : Tr) : (prT cols t).kids = if okT cols t then prL cols t.kids else [] := by cases t; rw [prT]; rfl
theorem prL_is (cols : Nat) : ∀ l, prL cols l = (l.map (prT cols)).reverse
  | [] => rfl
  | t :: l => by rw [prL, prL_is cols l]; simp
/-- A node in memory, and its parts' places where they count. -/
def NodeZ (cols : Nat) (w : World) (B : Nat) (t : Tr) : Prop :=
  ∃ A c A' c', t.b < B ∧ w.cell? ⟨t.b, t.o, none⟩ = some (.int .i64 t.p.op) ∧ w.cell? ⟨t.b, t.o + 1, none⟩ = some (.int .i64 t.p.col) ∧ w.cell? ⟨t.b, t.o + 2, none⟩ = some (.slice A t.p.vals.length c) ∧ w.cell? ⟨t.b, t.o + 3, none⟩ = some (.slice A' t.p.parts.length c') ∧
    Reads w B 3 A t.p.vals.length (vs t.p.vals) ∧ t.p.vals.length ≤ 65536 ∧ t.p.parts.length ≤ 65536 ∧
    (okT cols t → t.kids.reverse.map (·.p) = t.p.parts ∧ ∀ i s, t.kids.reverse[i]? = some s → ∃ b o, A' = some ⟨b, o, none⟩ ∧ s.b = b ∧ s.o = o + i * 4 ∧ b < B) ∧ (¬ okT cols t → t.kids = [])
theorem NodeZ.kept {cols : Nat} {w w' : World} {B : Nat} {t : Tr} (h : NodeZ cols w B t) (hk : ∀ k, k < B → w'.heap[k]? = w.heap[k]?) : NodeZ cols w' B t := by
  obtain ⟨A, c, A', c', h1, h2, h3, h4, h5, h6, h7⟩ := h
  have hc : ∀ p : Addr, p.block < B → w'.cell? p = w.cell? p := fun p hp => World.cell?_of_block (hk _ hp)
  exact ⟨A, c, A', c', h1, (hc _ h1).trans h2, (hc _ h1).trans h3, (hc _ h1).trans h4, (hc _ h1).trans h5, h6.keep hc, h7⟩
theorem NodeZ.below {cols : Nat} {w w' : World} {B : Nat} {t : Tr} (h : NodeZ cols w B t) (hb : Below B w w') : NodeZ cols w' B t := h.kept hb.block
theorem cntL_map_le (cols : Nat) : ∀ n, (∀ t, cntT t ≤ n → cntT (prT cols t) ≤ cntT t) ∧ ∀ l, cntL l ≤ n → cntL (prL cols l) ≤ cntL l
  | 0 => ⟨fun t h => by have := cntT_pos t; omega, fun l h => by
      have := cntL_len l
      obtain rfl := List.eq_nil_of_length_eq_zero (show l.length = 0 by omega)
      simp [prL, cntL]⟩
  | n + 1 => by
    obtain ⟨ih1, ih2⟩ := cntL_map_le cols n
    have h1 : ∀ t, cntT t ≤ n + 1 → cntT (prT cols t) ≤ cntT t := fun t ht => by
      rw [cntT_eq] at ht
      rw [cntT_eq, cntT_eq t, prT_kids]
      split
      · have := ih2 t.kids (by omega); omega
      · simp [cntL]
    refine ⟨h1, fun l => ?_⟩
    induction l with
    | nil => intro _; simp [prL, cntL]
    | cons t l ih =>
      intro hl
      simp only [cntL] at hl
      rw [prL, cntL_append]
      simp only [cntL]
      have := h1 t (by omega); have := ih (by omega); omega
theorem cnt_prT (cols : Nat) (t : Tr) : cntT (prT cols t) ≤ cntT t := (cntL_map_le cols _).1 t (Nat.le_refl _)
theorem prT_all {cols : Nat} {w : World} {B : Nat} : ∀ n, (∀ t, cntT t ≤ n → allT (NodeAt w B) t → allT (NodeZ cols w B) (prT cols t)) ∧ ∀ l, cntL l ≤ n → allL (NodeAt w B) l → allL (NodeZ cols w B) (prL cols l)
  | 0 => ⟨fun t h => by have := cntT_pos t; omega, fun l h _ => by
      have := cntL_len l
      obtain rfl := List.eq_nil_of_length_eq_zero (show l.length = 0 by omega)
      simp [prL, allL]⟩
  | n + 1 => by
    obtain ⟨ih1, ih2⟩ := prT_all (cols := cols) (w := w) (B := B) n
    have h1 : ∀ t, cntT t ≤ n + 1 → allT (NodeAt w B) t → allT (NodeZ cols w B) (prT cols t) := fun t ht h => by
      rw [cntT_eq] at ht
      rw [allT_eq] at h ⊢
      obtain ⟨⟨A, c, A', c', g1, g2, g3, g4, g5, g6, g7, g8, g9, g10⟩, h2⟩ := h
      refine ⟨⟨A, c, A', c', by rw [prT_b]; exact g1, by rw [prT_b, prT_o, prT_p]; exact g2, by rw [prT_b, prT_o, prT_p]; exact g3, by rw [prT_b, prT_o, prT_p]; exact g4, by rw [prT_b, prT_o, prT_p]; exact g5, by rw [prT_p]; exact g6.1, by rw [prT_p]; exact g8, by rw [prT_p]; exact g9, fun hk => ?_, fun hk => ?_⟩, ?_⟩
      · have hk' : okT cols t := by unfold okT at hk ⊢; rw [prT_p] at hk; exact hk
        rw [prT_kids, if_pos hk', prL_is, List.reverse_reverse, prT_p]
        refine ⟨by rw [List.map_map, ← g7]; exact List.map_congr_left fun s _ => prT_p cols s, fun i s hs => ?_⟩
        rw [List.getElem?_map] at hs
        cases hi : t.kids[i]? with
        | none => rw [hi] at hs; cases hs
        | some u =>
          rw [hi] at hs
          injection hs with hs
          subst hs
          rw [prT_b, prT_o]
          exact g10 i u hi
      · have hk' : ¬ okT cols t := by unfold okT at hk ⊢; rw [prT_p] at hk; exact hk
        rw [prT_kids, if_neg hk']
      · rw [prT_kids]
        split
        · exact ih2 _ (by omega) h2
        · simp [allL]
    refine ⟨h1, fun l => ?_⟩
    induction l with
    | nil => intro _ _; simp [prL, allL]
    | cons t l ih =>
      intro hl h
      simp only [cntL] at hl
      simp only [allL] at h
      rw [prL, allL_append]
      simp only [allL]
      exact ⟨ih (by omega) h.2, h1 t (by omega) h.1, trivial⟩
/-- The tree that is gone through. -/
theorem prT_at {cols : Nat} {w : World} {B : Nat} {t : Tr} (h : allT (NodeAt w B) t) : allT (NodeZ cols w B) (prT cols t) := (prT_all _).1 t (Nat.le_refl _) h
/-- So big: so few. -/
theorem szV_few (most : Int) : ∀ (l : List Vl) (n : Int), n ≤ l.foldl (fun n v => if n ≤ most then n + 1 + (v.2.2.length : Int) else n) n ∧ (l.foldl (fun n v => if n ≤ most then n + 1 + (v.2.2.length : Int) else n) n ≤ most → n + (l.length : Int) ≤ most)
  | [], n => by simp
  | v :: l, n => by
    obtain ⟨h1, h2⟩ := szV_few most l (if n ≤ most then n + 1 + (v.2.2.length : Int) else n)
    rw [List.foldl_cons]
    split at h1 <;> rename_i h
    · rw [if_pos h] at h2 ⊢
      refine ⟨by omega, fun h3 => ?_⟩
      have := h2 h3
      rw [List.length_cons]; omega
    · rw [if_neg h] at h2 ⊢
      refine ⟨h1, fun h3 => ?_⟩
      omega
theorem szP_one (most : Int) (hm : 0 ≤ most) : ∀ (d : Nat) (p : Pd), 1 ≤ szP most d p
  | 0, p => by simp [szP]; omega
  | d + 1, p => by
    have hp : ∀ (l : List Pd) (n : Int), 1 ≤ n → 1 ≤ l.foldl (fun n q => if n ≤ most then n + szP most d q else n) n := by
      intro l
      induction l with
      | nil => exact fun n h => h
      | cons q l ih =>
        intro n h
        rw [List.foldl_cons]
        refine ih _ ?_
        have := szP_one most hm d q
        split <;> omega
    exact hp _ _ (szV_few most p.vals 1).1
/-- What is small has few values and parts, and few predicates in all. -/
theorem sz_small (most : Int) (hm : 0 ≤ most) (hm2 : most ≤ 65536) : ∀ (d : Nat) (p : Pd), szP most d p ≤ most → (∀ f, Small f p) ∧ (ndP p : Int) ≤ szP most d p
  | 0, p, h => by simp [szP] at h; omega
  | d + 1, p, h => by
    have hv := szV_few most p.vals 1
    have hp : ∀ (l : List Pd) (n : Int), 0 ≤ n → n ≤ l.foldl (fun n q => if n ≤ most then n + szP most d q else n) n ∧ (l.foldl (fun n q => if n ≤ most then n + szP most d q else n) n ≤ most → n + (l.length : Int) ≤ most ∧ n + (ndL l : Int) ≤ l.foldl (fun n q => if n ≤ most then n + szP most d q else n) n ∧ ∀ q ∈ l, ∀ f, Small f q) := by
      intro l
      induction l with
      | nil => intro n _; simp [ndL]
      | cons q l ih =>
        intro n hn0
        rw [List.foldl_cons]
        have hq := szP_one most hm d q
        obtain ⟨h1, h2⟩ := ih (if n ≤ most then n + szP most d q else n) (by split <;> omega)
        split at h1 <;> rename_i hn
        · rw [if_pos hn] at h2 ⊢
          refine ⟨by omega, fun h3 => ?_⟩
          obtain ⟨g1, g2, g3⟩ := h2 h3
          obtain ⟨k1, k2⟩ := sz_small most hm hm2 d q (by omega)
          refine ⟨by rw [List.length_cons]; omega, by rw [ndL]; omega, fun u hu => ?_⟩
          rcases List.mem_cons.1 hu with rfl | hu
          · exact k1
          · exact g3 u hu
        · rw [if_neg hn] at h2 ⊢
          refine ⟨h1, fun h3 => ?_⟩
          omega
    have h0 : szP most (d + 1) p = p.parts.foldl (fun n q => if n ≤ most then n + szP most d q else n) (p.vals.foldl (fun n v => if n ≤ most then n + 1 + (v.2.2.length : Int) else n) 1) := rfl
    rw [h0] at h ⊢
    obtain ⟨h1, h2⟩ := hp p.parts (p.vals.foldl (fun n v => if n ≤ most then n + 1 + (v.2.2.length : Int) else n) 1) (by have := hv.1; omega)
    obtain ⟨g1, g2, g3⟩ := h2 h
    have hvl := hv.2 (by omega)
    refine ⟨fun f => ?_, by rw [ndP_eq]; have := hv.1; omega⟩
    cases f with
    | zero => trivial
    | succ f => exact ⟨by omega, by have := hv.1; omega, fun q hq => g3 q hq f⟩
end Go.Proofs.YtmjpjllbfgkfbaaDoor

/- Rows of a column's values: one that is made; one that is filled in order; one that is the call's own. No condition. -/
namespace Go.Proofs.YtmjpjllbfgkfbaaDoor
open Go.RowKit
set_option linter.unusedVariables false
set_option linter.unusedSimpArgs false
set_option maxRecDepth 100000

theorem info_val : (Tryd.prog.info? 37).map (fun i => (i.zero, i.size, i.bytes)) = some (some (.agg #[.int .i64 0, .int .i64 0, .string ⟨#[]⟩]), 3, 32) := by kernel_rfl
theorem made_vs (n : Nat) : madeCells #[.int .i64 0, .int .i64 0, .string ⟨#[]⟩] (n * 3) = (vs (List.replicate n (0, 0, []))).toArray := by
  apply Array.ext'
  apply List.ext_getElem?
  intro j
  have hl : (vs (List.replicate n ((0 : Int), (0 : Int), ([] : Tx)))).length = n * 3 := by rw [vs_length, List.length_replicate]
  by_cases hj : j < n * 3
  · have hy : (List.replicate n ((0 : Int), (0 : Int), ([] : Tx)))[j / 3]? = some (0, 0, []) := by rw [List.getElem?_replicate, if_pos (by omega)]
    obtain ⟨h1, h2, h3⟩ := vs_at hy
    have hr : j % 3 = 0 ∧ j = j / 3 * 3 ∨ j % 3 = 1 ∧ j = j / 3 * 3 + 1 ∨ j % 3 = 2 ∧ j = j / 3 * 3 + 2 := by omega
    rcases hr with ⟨e, e'⟩ | ⟨e, e'⟩ | ⟨e, e'⟩
    · rw [← e'] at h1; rw [List.toList_toArray, h1]; simp [madeCells, hj, e]
    · rw [← e'] at h2; rw [List.toList_toArray, h2]; simp [madeCells, hj, e]
    · rw [← e'] at h3; rw [List.toList_toArray, h3]; simp [madeCells, hj, e]
  · rw [List.getElem?_eq_none (by simp [madeCells]; omega), List.getElem?_eq_none (by rw [List.toList_toArray]; omega)]
theorem run_make_vals (n : Nat) (hn : n ≤ 8796093022208) (w : World) :
    (Instr.makeSlice 23 (.int .i64 (n : Int)) (.int .i64 (n : Int))).run Tryd.prog w = .ok (.slice (some ⟨w.heap.size, 0, none⟩) n n) (w.alloc (.cells (vs (List.replicate n (0, 0, []))).toArray 37)) := by
  obtain ⟨i, hi, hz0, hz1, hz2⟩ := info_parts info_val
  have hr := run_make (P := Tryd.prog) w 23 37 i _ Tryd.underlying23 hi hz0 .i64 .i64 n n (by omega) (by omega) (by rw [hz2]; omega) (by omega)
  rw [hz1] at hr
  simp only [Int.toNat_natCast, Value.cells] at hr
  rw [made_vs] at hr
  exact hr
/-- A row of values of which 'k' are filled. -/
def fillV (o : List (Int × Int × Tx)) (k : Nat) : Array Value := (vs (o.take k ++ List.replicate (o.length - k) (0, 0, []))).toArray
theorem fillV_zero (o : List (Int × Int × Tx)) (n : Nat) (h : o.length = n) : fillV o 0 = (vs (List.replicate n (0, 0, []))).toArray := by unfold fillV; simp [h]
theorem fillV_all (o : List (Int × Int × Tx)) (n : Nat) (h : o.length = n) : fillV o n = (vs o).toArray := by
  unfold fillV
  rw [List.take_of_length_le (by omega), h, Nat.sub_self]; simp
theorem vs_set : ∀ (l : List (Int × Int × Tx)) (k : Nat) (v : Int × Int × Tx), (((vs l).set (k * 3) (.int .i64 v.1)).set (k * 3 + 1) (.int .i64 v.2.1)).set (k * 3 + 2) (.string ⟨v.2.2.toArray⟩) = vs (l.set k v)
  | [], k, v => by simp [vs]
  | x :: l, 0, v => by simp [vs_cons, vc]
  | x :: l, k + 1, v => by
    have ih := vs_set l k v
    rw [List.set_cons_succ, vs_cons, vs_cons, ← ih, show (k + 1) * 3 = k * 3 + 3 by omega]
    simp [vc]
theorem fillV_next (o : List (Int × Int × Tx)) (k : Nat) (v : Int × Int × Tx) (h : o[k]? = some v) :
    (((fillV o k).setIfInBounds (k * 3) (.int .i64 v.1)).setIfInBounds (k * 3 + 1) (.int .i64 v.2.1)).setIfInBounds (k * 3 + 2) (.string ⟨v.2.2.toArray⟩) = fillV o (k + 1) := by
  have hk : k < o.length := (List.getElem?_eq_some_iff.1 h).1
  unfold fillV
  rw [List.setIfInBounds_toArray, List.setIfInBounds_toArray, List.setIfInBounds_toArray, vs_set]
  congr 2
  apply List.ext_getElem?
  intro i
  rw [List.getElem?_set]
  by_cases hi : k = i
  · subst hi
    rw [if_pos rfl, if_pos (by simp; omega), List.getElem?_append_left (by simp; omega), List.getElem?_take, if_pos (by omega), h]
  · rw [if_neg hi]
    by_cases h2 : i < k
    · rw [List.getElem?_append_left (by simp; omega), List.getElem?_append_left (by simp; omega), List.getElem?_take, List.getElem?_take, if_pos h2, if_pos (by omega)]
    · rw [List.getElem?_append_right (by simp; omega), List.getElem?_append_right (by simp; omega), List.getElem?_replicate, List.getElem?_replicate]
      simp only [List.length_take]
      by_cases h3 : i < o.length
      · rw [if_pos (by omega), if_pos (by omega)]
      · rw [if_neg (by omega), if_neg (by omega)]
/-- The three cells at a place of such a row are stored. -/
theorem Blk.val {w : World} {h k : Nat} {t : TypeId} {o : List (Int × Int × Tx)} {v : Int × Int × Tx} (hb : Blk w h t (fillV o k)) (hv : o[k]? = some v) :
    Blk (((w.setCell ⟨h, k * 3, none⟩ (.int .i64 v.1)).setCell ⟨h, k * 3 + 1, none⟩ (.int .i64 v.2.1)).setCell ⟨h, k * 3 + 2, none⟩ (.string ⟨v.2.2.toArray⟩)) h t (fillV o (k + 1)) := by
  have := ((hb.set_ (k * 3) (.int .i64 v.1)).set_ (k * 3 + 1) (.int .i64 v.2.1)).set_ (k * 3 + 2) (.string ⟨v.2.2.toArray⟩)
  rwa [fillV_next o k v hv] at this
/-- What stands at a place that isn't filled yet. -/
theorem fillV_old (o : List (Int × Int × Tx)) (k j : Nat) (h : k ≤ j) (hj : j < o.length) : (fillV o k)[j * 3]? = some (.int .i64 0) ∧ (fillV o k)[j * 3 + 1]? = some (.int .i64 0) ∧ (fillV o k)[j * 3 + 2]? = some (.string ⟨#[]⟩) := by
  have hy : (o.take k ++ List.replicate (o.length - k) ((0 : Int), (0 : Int), ([] : Tx)))[j]? = some (0, 0, []) := by
    rw [List.getElem?_append_right (by rw [List.length_take]; omega), List.getElem?_replicate, if_pos (by rw [List.length_take]; omega)]
  obtain ⟨h1, h2, h3⟩ := vs_at hy
  unfold fillV
  rw [List.getElem?_toArray, List.getElem?_toArray, List.getElem?_toArray]
  exact ⟨h1, h2, h3⟩
/-- A place that stays nothing. -/
theorem fillV_skip (o : List (Int × Int × Tx)) (k : Nat) (h : o[k]? = some (0, 0, [])) : fillV o (k + 1) = fillV o k := by
  have hk : k < o.length := (List.getElem?_eq_some_iff.1 h).1
  unfold fillV
  congr 2
  apply List.ext_getElem?
  intro i
  by_cases h2 : i < k
  · rw [List.getElem?_append_left (by simp; omega), List.getElem?_append_left (by simp; omega), List.getElem?_take, List.getElem?_take, if_pos h2, if_pos (by omega)]
  · by_cases hi : i = k
    · subst hi
      rw [List.getElem?_append_left (by simp; omega), List.getElem?_take, if_pos (by omega), h, List.getElem?_append_right (by simp; omega), List.getElem?_replicate, if_pos (by simp; omega)]
    · rw [List.getElem?_append_right (by simp; omega), List.getElem?_append_right (by simp; omega), List.getElem?_replicate, List.getElem?_replicate]
      simp only [List.length_take]
      by_cases h3 : i < o.length
      · rw [if_pos (by omega), if_pos (by omega)]
      · rw [if_neg (by omega), if_neg (by omega)]
theorem own_whole3 {w : World} {B h n : Nat} {t : TypeId} {o : List (Int × Int × Tx)} (hb : Blk w h t (vs o).toArray) (hB : B ≤ h) (hn : o.length = n) (hm : n ≤ maxLen) :
    w.ownsRow B t 3 (.slice (some ⟨h, 0, none⟩) n n) n (vs o) := by
  have hl := vs_length o
  exact ⟨by omega, .inr ⟨h, n, (vs o).toArray, rfl, hB, hb, Nat.le_refl _, hm, by simp; omega, by simp; rw [List.take_of_length_le (by omega)]⟩⟩
end Go.Proofs.YtmjpjllbfgkfbaaDoor

/- Rows of zero columns and of zero predicates that are made. No condition. -/
namespace Go.Proofs.YtmjpjllbfgkfbaaDoor
open Go.RowKit
set_option linter.unusedVariables false
set_option linter.unusedSimpArgs false
set_option maxRecDepth 100000

theorem flat_rep (zs : List Value) (h : 0 < zs.length) : ∀ (n j : Nat), j < n * zs.length → (List.replicate n zs).flatten[j]? = zs[j % zs.length]?
  | 0, j, hj => by omega
  | n + 1, j, hj => by
    rw [List.replicate_succ, List.flatten_cons]
    by_cases hlt : j < zs.length
    · rw [List.getElem?_append_left hlt, Nat.mod_eq_of_lt hlt]
    · rw [List.getElem?_append_right (by omega), flat_rep zs h n (j - zs.length) (by rw [Nat.succ_mul] at hj; omega)]
      congr 1
      exact (Nat.mod_eq_sub_mod (by omega)).symm
theorem flat_rep_length (zs : List Value) (n : Nat) : (List.replicate n zs).flatten.length = n * zs.length := by simp
theorem made_gen (zs : List Value) (h : 0 < zs.length) (n : Nat) : madeCells zs.toArray (n * zs.length) = ((List.replicate n zs).flatten).toArray := by
  apply Array.ext'
  apply List.ext_getElem?
  intro j
  by_cases hj : j < n * zs.length
  · rw [List.toList_toArray, flat_rep zs h n j hj]
    have hm : j % zs.length < zs.length := Nat.mod_lt _ h
    simp [madeCells, hj, List.getElem?_eq_getElem hm, Array.getD, hm]
  · rw [List.getElem?_eq_none (by simp [madeCells]; omega), List.getElem?_eq_none (by rw [List.toList_toArray, flat_rep_length]; omega)]
/-- So many zero columns; so many zero predicates. -/
def zcl (n : Nat) : List Value := (List.replicate n [.int .i64 0, .bool false, .int .i64 0]).flatten
def zpd (n : Nat) : List Value := (List.replicate n [.int .i64 0, .int .i64 0, .slice none 0 0, .slice none 0 0]).flatten
theorem zcl_length (n : Nat) : (zcl n).length = n * 3 := flat_rep_length _ n
theorem zpd_length (n : Nat) : (zpd n).length = n * 4 := flat_rep_length _ n
theorem info_col0 : (Tryd.prog.info? 43).map (fun i => (i.zero, i.size, i.bytes)) = some (some (.agg #[.int .i64 0, .bool false, .int .i64 0]), 3, 24) := by kernel_rfl
theorem info_pred0 : (Tryd.prog.info? 26).map (fun i => (i.zero, i.size, i.bytes)) = some (some (.agg #[.int .i64 0, .int .i64 0, .slice none 0 0, .slice none 0 0]), 4, 64) := by kernel_rfl
theorem run_make_cols (n : Nat) (hn : n ≤ 1073741824) (w : World) :
    (Instr.makeSlice 22 (.int .i64 (n : Int)) (.int .i64 (n : Int))).run Tryd.prog w = .ok (.slice (some ⟨w.heap.size, 0, none⟩) n n) (w.alloc (.cells (zcl n).toArray 43)) := by
  obtain ⟨i, hi, hz0, hz1, hz2⟩ := info_parts info_col0
  have hr := run_make (P := Tryd.prog) w 22 43 i _ Tryd.underlying22 hi hz0 .i64 .i64 n n (by omega) (by omega) (by rw [hz2]; omega) (by omega)
  rw [hz1] at hr
  simp only [Int.toNat_natCast, Value.cells] at hr
  rw [show madeCells #[.int .i64 0, .bool false, .int .i64 0] (n * 3) = (zcl n).toArray from made_gen [.int .i64 0, .bool false, .int .i64 0] (by simp) n] at hr
  exact hr
theorem run_make_preds (n : Nat) (hn : n ≤ 1073741824) (w : World) :
    (Instr.makeSlice 24 (.int .i64 (n : Int)) (.int .i64 (n : Int))).run Tryd.prog w = .ok (.slice (some ⟨w.heap.size, 0, none⟩) n n) (w.alloc (.cells (zpd n).toArray 26)) := by
  obtain ⟨i, hi, hz0, hz1, hz2⟩ := info_parts info_pred0
  have hr := run_make (P := Tryd.prog) w 24 26 i _ Tryd.underlying24 hi hz0 .i64 .i64 n n (by omega) (by omega) (by rw [hz2]; omega) (by omega)
  rw [hz1] at hr
  simp only [Int.toNat_natCast, Value.cells] at hr
  rw [show madeCells #[.int .i64 0, .int .i64 0, .slice none 0 0, .slice none 0 0] (n * 4) = (zpd n).toArray from made_gen [.int .i64 0, .int .i64 0, .slice none 0 0, .slice none 0 0] (by simp) n] at hr
  exact hr
theorem reads_blkZ {w : World} {g n s : Nat} {t : TypeId} {xs : List Value} (hb : Blk w g t xs.toArray) (hl : xs.length = n * s) : Reads w w.heap.size s (some ⟨g, 0, none⟩) n xs :=
  ⟨hl, fun _ => ⟨_, rfl, hb.lt, fun j u hu => by rw [plain_add, Nat.zero_add, hb.cell j, List.getElem?_toArray]; exact hu⟩⟩
/-- A zero column's Kind. -/
theorem zcl_kind {w : World} {B n k : Nat} {A : Option Addr} (h : Reads w B 3 A n (zcl n)) (hk : k < n) : ∃ b o, A = some ⟨b, o, none⟩ ∧ b < B ∧ w.cell? ⟨b, o + k * 3, none⟩ = some (.int .i64 0) := by
  obtain ⟨⟨b, o, sp⟩, rfl, hb, hc⟩ := h.2 (by omega)
  have hl := zcl_length n
  obtain rfl : sp = none := by simpa [Addr.add] using World.cell?_spot (hc 0 _ (List.getElem?_eq_getElem (by omega)))
  refine ⟨b, o, rfl, hb, ?_⟩
  have h0 : (zcl n)[k * 3]? = some (.int .i64 0) := by
    rw [zcl, flat_rep _ (by simp) n (k * 3) (by simp; omega)]
    simp
  have := hc _ _ h0
  rwa [plain_add] at this
/-- A zero predicate's cells. -/
theorem zpd_at {w : World} {B n k : Nat} {A : Option Addr} (h : Reads w B 4 A n (zpd n)) (hk : k < n) : ∃ b o, A = some ⟨b, o, none⟩ ∧ b < B ∧ w.cell? ⟨b, o + k * 4, none⟩ = some (.int .i64 0) ∧ w.cell? ⟨b, o + k * 4 + 1, none⟩ = some (.int .i64 0) ∧ w.cell? ⟨b, o + k * 4 + 2, none⟩ = some (.slice none 0 0) ∧ w.cell? ⟨b, o + k * 4 + 3, none⟩ = some (.slice none 0 0) := by
  obtain ⟨⟨b, o, sp⟩, rfl, hb, hc⟩ := h.2 (by omega)
  have hl := zpd_length n
  obtain rfl : sp = none := by simpa [Addr.add] using World.cell?_spot (hc 0 _ (List.getElem?_eq_getElem (by omega)))
  have hj : ∀ j, j < 4 → (zpd n)[k * 4 + j]? = [Value.int .i64 0, .int .i64 0, .slice none 0 0, .slice none 0 0][j]? := fun j hj => by
    rw [zpd, flat_rep _ (by simp) n (k * 4 + j) (by simp; omega)]
    congr 1
    simp
    omega
  have h0 := hc _ _ (hj 0 (by omega)); have h1 := hc _ _ (hj 1 (by omega)); have h2 := hc _ _ (hj 2 (by omega)); have h3 := hc _ _ (hj 3 (by omega))
  rw [plain_add] at h0 h1 h2 h3
  exact ⟨b, o, rfl, hb, h0, by rw [Nat.add_assoc]; exact h1, by rw [Nat.add_assoc]; exact h2, by rw [Nat.add_assoc]; exact h3⟩
end Go.Proofs.YtmjpjllbfgkfbaaDoor

/- A range over a function whose body never leaves early, over an iterator that may write cells of its own (a reader's): the statement, out of the iterator's contract and one walk of the body. No program, no condition. -/
namespace Go.Proofs.YtmjpjllbfgkfbaaDoor
open Go.RowKit
set_option linter.unusedVariables false
set_option linter.unusedSimpArgs false
set_option maxRecDepth 100000

theorem wide_fn (f : FuncId) : Fence.wide.fn f = True := rfl
theorem wide_depth : Fence.wide.depth = none := rfl
/-- What a round leaves alone: all that is no cells from block 'B' on, and the blocks that the iterator leans on. -/
structure Spares (B : Nat) (X : Nat → Prop) (W W' : World) : Prop where
  from_ : KeepsFrom B W W'
  leans : ∀ k, X k → W'.heap[k]? = W.heap[k]?
theorem Spares.refl (B : Nat) (X : Nat → Prop) (W : World) : Spares B X W W := ⟨KeepsFrom.refl _ _, fun _ _ => rfl⟩
theorem Spares.trans {B : Nat} {X : Nat → Prop} {a b c : World} (h : Spares B X a b) (k : Spares B X b c) : Spares B X a c := ⟨h.from_.trans k.from_, fun i hi => (k.leans i hi).trans (h.leans i hi)⟩
theorem Spares.drawn {B : Nat} {X : Nat → Prop} {a w w' : World} (h : Spares B X a w) (hd : Drawn w w') : Spares B X a w' := by
  obtain ⟨q, rfl⟩ := hd
  exact ⟨⟨h.from_.size, h.from_.same⟩, h.leans⟩
theorem Spares.below {B : Nat} {X : Nat → Prop} {a w w' : World} (h : Spares B X a w) (hX : ∀ k, X k → k < w.heap.size) (hb : Below w.heap.size w w') : Spares B X a w' :=
  h.trans ⟨⟨hb.size, fun k o _ ho _ => (hb.block k (Array.getElem?_eq_some_iff.1 ho).1).trans ho⟩, fun k hk => hb.block k (hX k hk)⟩
theorem cell_is_cells {w : World} {p : Addr} {u : Value} (h : w.cell? p = some u) : ∃ o : Obj, w.heap[p.block]? = some o ∧ o.isCells = true := cells_of_cell h
theorem Spares.setCell {B : Nat} {X : Nat → Prop} {a w : World} (h : Spares B X a w) {p : Addr} (hX : ¬ X p.block) (u : Value) : Spares B X a (w.setCell p u) :=
  h.trans ⟨(KeepsOthers.setCell w p u).from B, fun k hk => Below.heap_setCell w p u k (fun e => hX (by rw [← e]; exact hk))⟩
/-- An append onto a row. -/
theorem Spares.grown {B : Nat} {X : Nat → Prop} {a w w' : World} (h : Spares B X a w) {row : Option Nat} (hg : w.grownBy w' row) (hX : ∀ k, X k → k < w.heap.size) (hr : ∀ j, row = some j → ¬ X j ∧ ∀ o : Obj, w.heap[j]? = some o → o.isCells = true) : Spares B X a w' :=
  h.trans ⟨(KeepsOthers.of_grownBy hg (fun j o e ho => (hr j e).2 o ho)).from B, fun k hk => hg.block k (hX k hk) (fun e => (hr k e.symm).1 hk)⟩

variable {P : Program}
/-- What an iterator's call of yield is to be handed: a round that ends in true, from 'J k' to 'J (k + 1)', and spares what the iterator leans on. -/
def Rounds (P : Program) (l N : Nat) (el : Nat → Array Value) (X : Nat → Prop) (J : Nat → World → Prop) : Prop :=
  ∀ k W, k < N → J k W → YieldAt Fence.wide 0 P l (el k) W fun e W' => e = .returned (.bool true) ∧ J (k + 1) W' ∧ ∀ i, X i → W'.heap[i]? = W.heap[i]?
/-- What the iterator's own steps leave: all but new blocks and the blocks that it may write. -/
def Abide (X Y : Nat → Prop) (J : Nat → World → Prop) : Prop := ∀ k A B, J k A → (∃ row, A.grownBy B row ∧ ∀ r, row = some r → Y r) → J k B
/-- The contract of a function that is ranged over: so many rounds with those values; what it leaves itself ('T'). -/
def Gives (P : Program) (gf : Nat) (lb : Array Value) (N : Nat) (el : Nat → Array Value) (X Y : Nat → Prop) (T : World → Prop) (w : World) : Prop :=
  ∀ (l : Nat) (J : Nat → World → Prop) (W : World), Below w.heap.size w W → Abide X Y J → Rounds P l N el X J → J 0 W →
    Calls P gf (#[.func (.yield l) #[] #[]] ++ lb) W fun e W' => (∃ v, e = .returned v) ∧ J N W' ∧ T W'

/-! The two blocks of a loop: the mark of the deferred calls, and the record behind it. -/
def recOf (fn : FuncId) (a : Act) (ps : Array Tmp) (assign body : Code) (D : Nat) (st : LoopState) : Loop :=
  { fn := fn, tmps := a.tmps, params := ps, assign := assign, body := body, defers := D, pending := none, state := st }
structure Under (D : Nat) (r : Loop) (W : World) : Prop where
  mark : W.heap[D]? = some (.deferred (some []))
  record : W.heap[D + 1]? = some (.loop r)
theorem Under.lt {D : Nat} {r : Loop} {W : World} (u : Under D r W) : D + 1 < W.heap.size := (Array.getElem?_eq_some_iff.1 u.record).1
/-- A new record in the old one's place. -/
theorem Under.turn {D : Nat} {r : Loop} {W : World} (u : Under D r W) (r' : Loop) : Under D r' (W.putObj (D + 1) (.loop r')) :=
  ⟨(World.putObj_heap_other (by omega)).trans u.mark, World.putObj_heap_same u.lt⟩
/-- A step that turns a block below. -/
theorem Under.step {D : Nat} {r : Loop} {A B : World} (u : Under D r A) {row : Option Nat} (hg : A.grownBy B row) (hr : ∀ k, row = some k → k < D) : Under D r B :=
  ⟨(hg.block D (by have := u.lt; omega) (fun e => by have := hr D e.symm; omega)).trans u.mark, (hg.block (D + 1) u.lt (fun e => by have := hr _ e.symm; omega)).trans u.record⟩
theorem Under.spared {D : Nat} {r : Loop} {X : Nat → Prop} {A B : World} (u : Under D r A) (s : Spares D X A B) : Under D r B :=
  ⟨s.from_.same _ _ (Nat.le_refl _) u.mark rfl, s.from_.same _ _ (by omega) u.record rfl⟩
theorem under_new (w : World) (r : Loop) : Under w.heap.size r ((w.alloc (.deferred (some []))).alloc (.loop r)) := by
  have h := World.alloc_heap_new (w.alloc (.deferred (some []))) (.loop r)
  rw [World.size_alloc] at h
  exact ⟨(Below.heap_alloc _ _ _ (by rw [World.size_alloc]; omega)).trans (World.alloc_heap_new w _), h⟩
/-- What is said of a world minds no block but the caller's: a turn of the record leaves it. -/
def Minds (D : Nat) (I : World → Prop) : Prop := ∀ A B row, I A → A.grownBy B row → (∀ r, row = some r → D ≤ r ∧ ∃ o : Obj, A.heap[r]? = some o ∧ o.isCells = false) → I B
theorem Minds.turn {D : Nat} {I : World → Prop} (h : Minds D I) {r : Loop} {W : World} (u : Under D r W) (r' : Loop) (hi : I W) : I (W.putObj (D + 1) (.loop r')) :=
  h W _ (some (D + 1)) hi (grownBy_putObj' W (D + 1) _) (fun k e => by injection e with e; subst e; exact ⟨Nat.le_succ D, _, u.record, rfl⟩)
theorem Minds.new {D : Nat} {I : World → Prop} (h : Minds D I) {W : World} (hi : I W) (o : Obj) : I (W.alloc o) := h W _ none hi (World.grownBy_alloc W o none) (fun r e => by cases e)

/-- One round: yield is called, the body is walked, the record is ready as before. -/
theorem round_gives {a a₁ : Act} {ps : Array Tmp} {assign body : Code} {fn : FuncId} {D : Nat} {el : Array Value} {X : Nat → Prop} {I I' : World → Prop} {W : World}
    (hps : el.size = ps.size) (hI : Minds D I) (hI' : Minds D I') (hX : ∀ k, X k → k < D) (u : Under D (recOf fn a ps assign body D .ready) W) (hi : I W)
    (hassign : ∀ (K : Act → World → Prop), K a₁ W → assign.wpIn (Fence.wide.inRound (D + 1)) 0 P (Exit.then K (fun _ _ _ => False)) { tmps := (ps.zip el).foldl (fun t (p, v) => t.setIfInBounds p v) a.tmps, defers := [] } W)
    (hbody : ∀ W2, D ≤ W2.heap.size → I W2 → body.wpIn (Fence.wide.inRound (D + 1)) 0 P (fun e _ W' => e = .normal ∧ Spares D X W2 W' ∧ I' W') a₁ W2) :
    YieldAt Fence.wide 0 P (D + 1) el W fun e W' => e = .returned (.bool true) ∧ (I' W' ∧ Under D (recOf fn a ps assign body D .ready) W') ∧ ∀ i, X i → W'.heap[i]? = W.heap[i]? := by
  have hturn : ∀ (V : World) (o : Obj) (i : Nat), X i → (V.putObj (D + 1) o).heap[i]? = V.heap[i]? := fun V o i hx => World.putObj_heap_other (by have := hX i hx; omega)
  have ub := u.turn (recOf fn a ps assign body D .busy)
  have hgo := run_yield (P := P) (args := el) u.record hps
  refine ⟨fn, _, assign, body, hgo, roundIn_of_wpIn trivial (hassign _ ⟨_, run_beginRound u.record rfl, ?_⟩)⟩
  refine wpIn_mono (hbody _ (by have := ub.lt; show D ≤ (W.putObj (D + 1) _).heap.size; rw [World.putObj_size]; have := u.lt; omega) (hI.turn u _ hi)) ?_
  rintro e a' V ⟨rfl, hs, hv⟩
  have uv : Under D (recOf fn a ps assign body D .busy) V := ub.spared hs
  refine ⟨.bool true, V.putObj (D + 1) (.loop (recOf fn a ps assign body D .ready)), run_endRound (P := P) none uv.record, rfl, ⟨hI'.turn uv _ hv, uv.turn _⟩, fun i hx => ?_⟩
  exact (hturn V _ i hx).trans ((hs.leans i hx).trans (hturn W _ i hx))

theorem range_gives {g : Operand} {ps : Array Tmp} {assign body : Code} {Q : Exit → Act → World → Prop} {a : Act} {w : World} {gf : Nat} {lb : Array Value}
    (hg : a.eval g = .func (.func gf) #[] lb) (eg : ∀ args w, (callFunc gf args).run P w = .ok (.enter gf args) w)
    {N : Nat} {el : Nat → Array Value} {X Y : Nat → Prop} {T : World → Prop} (hseq : Gives P gf lb N el X Y T w)
    (hX : ∀ k, X k → k < w.heap.size) (hY : ∀ k, Y k → k < w.heap.size) (hps : ∀ k, (el k).size = ps.size)
    (I : Nat → World → Prop) (a₁ : Nat → Act) (h0 : I 0 w)
    (hIn : ∀ k A B row, I k A → A.grownBy B row → (∀ r, row = some r → w.heap.size ≤ r ∧ ∃ o : Obj, A.heap[r]? = some o ∧ o.isCells = false) → I k B)
    (hIy : ∀ k A B row, I k A → A.grownBy B row → (∀ r, row = some r → Y r) → I k B)
    (hT : ∀ A B row, T A → A.grownBy B row → (∀ r, row = some r → w.heap.size ≤ r ∧ ∃ o : Obj, A.heap[r]? = some o ∧ o.isCells = false) → T B)
    (hassign : ∀ (l k : Nat) (W : World) (K : Act → World → Prop), K (a₁ k) W →
      assign.wpIn (Fence.wide.inRound l) 0 P (Exit.then K (fun _ _ _ => False)) { tmps := (ps.zip (el k)).foldl (fun t (p, v) => t.setIfInBounds p v) a.tmps, defers := [] } W)
    (hbody : ∀ (l k : Nat) (W : World), k < N → w.heap.size ≤ W.heap.size → I k W → body.wpIn (Fence.wide.inRound l) 0 P (fun e _ W' => e = .normal ∧ Spares w.heap.size X W W' ∧ I (k + 1) W') (a₁ k) W)
    (hdone : ∀ (D : Nat) (W : World), w.heap.size ≤ D → I N W → T W → W.heap[D]? = some (.deferred (some [])) → Q .normal { a with defers := { target := .collected D, args := #[] } :: a.defers } W) :
    (Code.rangeFunc g ps assign body).wpIn Fence.wide 0 P Q a w := by
  have mI : ∀ k, Minds w.heap.size (I k) := fun k A B row h hg hr => hIn k A B row h hg hr
  have mT : Minds w.heap.size T := hT
  refine wpIn_rangeFunc fun fn _ => ?_
  have u0 := under_new w (recOf fn a ps assign body w.heap.size .ready)
  have b0 : Below w.heap.size w ((w.alloc (.deferred (some []))).alloc (.loop (recOf fn a ps assign body w.heap.size .ready))) := ((Below.refl _ w).alloc (Nat.le_refl _) _).alloc (by simp) _
  have i0 := (mI 0).new ((mI 0).new h0 (.deferred (some []))) (.loop (recOf fn a ps assign body w.heap.size .ready))
  have hen := run_enterLoop_outer (P := P) (w := w) fn a.tmps ps assign body
  change _ = Result.ok _ ((w.alloc (.deferred (some []))).alloc (.loop (recOf fn a ps assign body w.heap.size .ready))) at hen
  generalize (w.alloc (.deferred (some []))).alloc (.loop (recOf fn a ps assign body w.heap.size .ready)) = W1 at u0 b0 i0 hen
  have hcall := hseq (w.heap.size + 1) (fun k W => I k W ∧ Under w.heap.size (recOf fn a ps assign body w.heap.size .ready) W) _ b0
    (fun k A B h ⟨row, hg', hr⟩ => ⟨hIy k A B row h.1 hg' hr, h.2.step hg' (fun j e => hY j (hr j e))⟩)
    (fun k W hk h => round_gives (hps k) (mI k) (mI (k + 1)) hX h.2 h.1 (hassign _ k W) (fun W2 hs hi => hbody _ k W2 hk hs hi))
    ⟨i0, u0⟩
  refine ⟨_, _, _, { target := .fn (.func gf) lb, args := #[.func (.yield (w.heap.size + 1)) #[] #[]] }, W1, gf, _, _, hen, ?_, fun _ _ => trivial, ?_, fun h => (by cases h), callsIn_wide.2 (hcall.mono ?_)⟩
  · simp only [resolve, hg]; simp [go_sem]
  · simp [invoke, go_sem, eg]
  · rintro e W2 ⟨⟨v, rfl⟩, ⟨hi, u⟩, ht⟩
    refine ⟨none, _, run_endLoop (P := P) u.record (by intro h; cases h), hdone _ _ (Nat.le_refl _) ((mI N).turn u _ hi) (mT.turn u _ ht) (u.turn _).mark⟩

/-- An operation that is no defer statement is in a round what it is everywhere. -/
theorem oper_in {o : Oper} {a : Act} {w : World} {K : Act → World → Prop} {Q : Exit → Act → World → Prop} {l : Nat} (ho : ∀ c, o.op ≠ .defer c) (h : o.wp P a w K Q) : o.wpIn (Fence.wide.inRound l) 0 P a w K Q := by
  refine ⟨fun _ _ => trivial, ?_⟩
  rw [show (Fence.wide.inRound l).round = some l from rfl, Oper.semAt_some l _ _ ho]
  unfold Oper.wp at h
  generalize (execOp a.eval o).run P w = r at h
  cases r with
  | ok x w' =>
    cases x <;> simp only [Oper.upon, Oper.uponIn] at h ⊢ <;> first
      | exact h
      | exact ⟨fun hd => (by cases hd), CallsIn.inRound l (callsIn_wide.2 h)⟩
      | exact ⟨fun hd => (by cases hd), fun c cs _ => let ⟨v, w'', r, s⟩ := h c cs; ⟨v, w'', r, stepsIn_wide.2 s⟩⟩
      | exact h.elim
  | halt x w' => cases x <;> simp only [Oper.upon, Oper.uponIn] at h ⊢ <;> exact h
theorem wpListIn_append_any {ops : Array Oper} {rest : List Oper} {o : Oper} {a : Act} {w : World} {Q : Exit → Act → World → Prop} {l : Nat} (hgd : o.guard = none) (s x : Operand) (t : TypeId)
    (ho : o.op = .call { callee := .builtin .append, args := #[s, x], argTypes := #[t, t] })
    (base : Nat) (e : TypeId) (i : TypeInfo) (z : Value) (size bytes : Nat) (ht : P.underlying t = some (.slice e)) (hi : P.info? e = some i) (hz : i.zero = some z)
    (hsize : i.size = size) (hby : i.bytes = bytes) (hzs : z.cells.size = size) (hsz : 0 < size)
    (v : Value) (n : Nat) (xs : List Value) (hs : a.eval s = v) (hown : w.ownsRow base e size v n xs)
    (B : Nat) (A : Option Addr) (m c : Nat) (news : List Value) (hx : a.eval x = .slice A m c) (hr : Reads w B size A m news) (h1 : ∀ u ∈ news, u.oneCell' = true)
    (h63 : n + m ≤ maxLen) (hbytes : (n + m) * bytes ≤ 140737488355328) (hbase : base ≤ w.heap.size)
    (h : ∀ v' w', w'.ownsRow base e size v' (n + m) (xs ++ news) → w.grownBy w' v.ownBlock → (v'.ownBlock = v.ownBlock ∨ v'.ownBlock = some w.heap.size) → wpListIn (Fence.wide.inRound l) 0 P ops Q rest (a.put o.dst v') w') :
    wpListIn (Fence.wide.inRound l) 0 P ops Q (o :: rest) a w :=
  wpListIn_plain hgd fun K hK => oper_in (by rw [ho]; intro c e; cases e) (wp_append_any w s x t ho base e i z size bytes ht hi hz hsize hby hzs hsz v n xs hs hown B A m c news hx hr h1 h63 hbytes hbase fun v' w' h2 h3 h4 => hK _ _ (h v' w' h2 h3 h4))

/-- No operation of a region is a defer statement. -/
def noDefer (ops : Array Oper) : Bool := ops.all fun o => match o.op with | .defer .. => false | _ => true
theorem noDefer_at {ops : Array Oper} (h : noDefer ops = true) {i : Nat} {o : Oper} (ho : ops[i]? = some o) : ∀ c, o.op ≠ .defer c := by
  intro c e
  obtain ⟨hi, rfl⟩ := Array.getElem?_eq_some_iff.1 ho
  unfold noDefer at h
  rw [Array.all_eq_true] at h
  have := h i hi
  rw [e] at this
  cases this
theorem any_in {md : Region.Mode} {ops : Array Oper} {Q : Exit → Act → World → Prop} {l : Nat} (hd : noDefer ops = true) (hQ : ∀ a w, ¬ Q .outgrown a w) : ∀ (fuel : Nat) (listed : Array Bool) (a : Act) (w : World),
    wpAny P md ops Q fuel listed a w → wpAnyIn (Fence.wide.inRound l) 0 P md ops Q fuel listed a w
  | 0, _, _, _, h => h
  | fuel + 1, listed, a, w, h => by
    refine ⟨h.1, fun i hi => ?_⟩
    have hs := h.2 i hi
    unfold wpOp at hs
    unfold wpOpIn
    cases ho : ops[i]? with
    | none => rw [ho] at hs; exact any_in hd hQ fuel _ _ _ hs
    | some o =>
      rw [ho] at hs
      simp only at hs ⊢
      split
      · rename_i hw
        rw [if_pos hw] at hs
        rcases hs with hs | ⟨_, a', w', ho'⟩
        · exact oper_in (noDefer_at hd ho) (Oper.wp_mono (fun a' w' h' => any_in hd hQ fuel _ a' w' h') hs)
        · exact (hQ a' w' ho').elim
      · rename_i hw
        rw [if_neg hw] at hs
        exact ⟨fun _ _ => trivial, any_in hd hQ fuel _ _ _ hs⟩
/-- A region that draws its order, in a round: walked as everywhere. -/
theorem region_in {id : Nat} {ops : Array Oper} {Q : Exit → Act → World → Prop} {a : Act} {w : World} {l : Nat} (hm : P.follows .mixedOrders = true) (hd : noDefer ops = true) (hQ : ∀ a w, ¬ Q .outgrown a w)
    (h : wpAny P .any ops Q ops.size (Array.replicate ops.size false) a w.drew) : (Code.region id ops true).wpIn (Fence.wide.inRound l) 0 P Q a w :=
  wpIn_region_any hm (any_in hd hQ _ _ _ _ h)
end Go.Proofs.YtmjpjllbfgkfbaaDoor
