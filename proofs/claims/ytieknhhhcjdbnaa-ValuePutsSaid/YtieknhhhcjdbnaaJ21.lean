/- Texts joined: VlAwake TxCmp VlGtr. -/
import Derived.BigQuiet
import Derived.BigGuard
import Derived.Deep.QuietTactic
import Derived.Test.YtieknhhhcjdbnaaVlForm
import Derived.Test.YtieknhhhcjdbnaaVlOrd
import Derived.Test.YtieknhhhcjdbnaaJ18
import Derived.Test.YtieknhhhcjdbnaaColsIn
import Derived.Test.YtieknhhhcjdbnaaTxOrd
import Derived.Laws.Strings
/- The program's Cmp and Schema told by contracts; the layer's awake under them. -/
namespace Go.Proofs.Ytieknhhhcjdbnaa
open Go.RowKit
set_option linter.unusedVariables false
set_option linter.unusedSimpArgs false
set_option maxRecDepth 100000

/-- The program's order of values is the document's. -/
def CmpC : Prop := ∀ (a b : Vl) (w : World), Calls Try.prog 7 #[vW a, vW b] w fun e w' => e = .returned (.int .i64 (cmpV a b)) ∧ Below w.heap.size w w'
/-- The program's check of a schema is the document's. -/
def SchemaC : Prop := ∀ (A : Option Addr) (n c : Nat) (s : List Cl) (w : World), Reads w w.heap.size 3 A n (cls s) → n ≤ 200 → Calls Try.prog 9 #[.slice A n c] w fun e w' => e = .returned (.int .i64 (scE s)) ∧ Below w.heap.size w w'
theorem blk3 {w : World} {g : Nat} {t : TypeId} {a b c : Value} (h : Blk w g t #[a, b, c]) : w.cell? ⟨g, 0, none⟩ = some a ∧ w.cell? ⟨g, 1, none⟩ = some b ∧ w.cell? ⟨g, 2, none⟩ = some c := ⟨h.cell 0, h.cell 1, h.cell 2⟩
set_option maxHeartbeats 1000000 in
theorem awakeV_any (hc : CmpC) (hs : SchemaC) (w : World) : Calls Try.prog 6 #[] w fun e w' => e = .returned (.bool true) ∧ Below w.heap.size w w' := by
  have c1 : ∀ W : World, Calls Try.prog 7 #[.agg #[.int .i64 0, .int .i64 0, .string ⟨#[]⟩], .agg #[.int .i64 1, .int .i64 (-5), .string ⟨#[]⟩]] W fun e w' => e = .returned (.int .i64 (-1)) ∧ Below W.heap.size W w' := fun W => hc (0, 0, []) (1, -5, []) W
  have c2 : ∀ W : World, Calls Try.prog 7 #[.agg #[.int .i64 1, .int .i64 (-5), .string ⟨#[]⟩], .agg #[.int .i64 2, .int .i64 0, .string ⟨#[]⟩]] W fun e w' => e = .returned (.int .i64 (-1)) ∧ Below W.heap.size W w' := fun W => hc (1, -5, []) (2, 0, []) W
  have c3 : ∀ W : World, Calls Try.prog 7 #[.agg #[.int .i64 2, .int .i64 0, .string ⟨#[]⟩], .agg #[.int .i64 2, .int .i64 0, .string ⟨#[]⟩]] W fun e w' => e = .returned (.int .i64 0) ∧ Below W.heap.size W w' := fun W => hc (2, 0, []) (2, 0, []) W
  have c4 : ∀ W : World, Calls Try.prog 9 #[.slice none 0 0] W fun e w' => e = .returned (.int .i64 12) ∧ Below W.heap.size W w' := fun W => hs none 0 0 [] W Reads.none_ (by omega)
  have C1 := Lib.hid c1; have C2 := Lib.hid c2; have C3 := Lib.hid c3; have C4 := Lib.hid c4
  clear c1 c2 c3 c4 hc hs
  obtain ⟨x0, hx0⟩ : ∃ x : Array Value, x = #[.int .i64 0, .int .i64 0, .string ⟨#[]⟩] := ⟨_, rfl⟩
  obtain ⟨x1, hx1⟩ : ∃ x : Array Value, x = #[.int .i64 1, .int .i64 (-5), .string ⟨#[]⟩] := ⟨_, rfl⟩
  obtain ⟨x2, hx2⟩ : ∃ x : Array Value, x = #[.int .i64 2, .int .i64 0, .string ⟨#[]⟩] := ⟨_, rfl⟩
  have hB : Below w.heap.size w (((w.alloc (.cells x0 23)).alloc (.cells x1 23)).alloc (.cells x2 23)) := (((Below.refl _ _).alloc (Nat.le_refl _) _).alloc (by simp) _).alloc (by simp; omega) _
  have k1 : Blk (((w.alloc (.cells x0 23)).alloc (.cells x1 23)).alloc (.cells x2 23)) (w.heap.size + 1) 23 x1 := by
    have h := (Blk.new (w.alloc (.cells x0 23)) 23 x1).alloc (.cells x2 23)
    rwa [World.size_alloc] at h
  have k2 : Blk (((w.alloc (.cells x0 23)).alloc (.cells x1 23)).alloc (.cells x2 23)) (w.heap.size + 1 + 1) 23 x2 := by
    have h := Blk.new ((w.alloc (.cells x0 23)).alloc (.cells x1 23)) 23 x2
    rwa [World.size_alloc, World.size_alloc] at h
  have hz : (((w.alloc (.cells x0 23)).alloc (.cells x1 23)).alloc (.cells x2 23)).heap.size = w.heap.size + 3 := by simp
  rw [hx0, hx1, hx2] at hB k1 k2 hz
  have HB := Lib.hid hB; have K1 := Lib.hid k1; have K2 := Lib.hid k2; have HZ := Lib.hid hz
  clear hB k1 k2 hz hx0 hx1 hx2
  go_enter Try.func6, Try.ntmps6
  go_wp2_with fail
  refine (C1.out _).mono ?_
  rintro e w1 ⟨rfl, hb1⟩
  have z1 := hb1.size
  rw [HZ.out] at z1
  have j1 := K1.out.below hb1 (by rw [HZ.out]; omega)
  have j2 := K2.out.below hb1 (by rw [HZ.out]; omega)
  have hb01 := HB.out.trans (hb1.mono (by rw [HZ.out]; omega))
  obtain ⟨p0, p1, p2⟩ := blk3 j1
  obtain ⟨q0, q1, q2⟩ := blk3 j2
  go_wp2_with fail
  refine (C2.out _).mono ?_
  rintro e w2 ⟨rfl, hb2⟩
  clear p0 p1 p2 q0 q1 q2
  have z2 := hb2.size
  have j3 := j2.below hb2 (by omega)
  have hb02 := hb01.trans (hb2.mono (by omega))
  obtain ⟨q0, q1, q2⟩ := blk3 j3
  go_wp2_with fail
  refine (C3.out _).mono ?_
  rintro e w3 ⟨rfl, hb3⟩
  clear q0 q1 q2
  have z3 := hb3.size
  have hb03 := hb02.trans (hb3.mono (by omega))
  go_wp2_with fail
  refine (C4.out _).mono ?_
  rintro e w4 ⟨rfl, hb4⟩
  go_wp2_with fail
  go_ret
  exact ⟨rfl, hb03.trans (hb4.mono (by omega))⟩
end Go.Proofs.Ytieknhhhcjdbnaa

/- How the model orders texts: the laws of '>=' and '<=' on them, and their order as a truth. No program, no condition. -/
namespace Go.Proofs.Ytieknhhhcjdbnaa
open Go.RowKit
theorem dec_tlt (a b : Tx) : decide (tlt a b) = Op.bytesLess a b := by rw [Bool.eq_iff_iff, decide_eq_true_iff]; exact Iff.rfl
theorem less_of {a b : Tx} (h : tlt a b) : Op.bytesLess a b = true := h
theorem less_not {a b : Tx} (h : ¬ tlt a b) : Op.bytesLess a b = false := by rw [← dec_tlt]; simp [h]
theorem binOp_geq_tx (t : TypeId) (a b : List UInt8) : binOp .geq t (.string ⟨a.toArray⟩) (.string ⟨b.toArray⟩) = pure (.bool !(decide (tlt a b))) := by
  rw [dec_tlt]; simp [binOp, Op.stringOp]
theorem binOp_leq_tx (t : TypeId) (a b : List UInt8) : binOp .leq t (.string ⟨a.toArray⟩) (.string ⟨b.toArray⟩) = pure (.bool !(decide (tlt b a))) := by
  have h : (Op.bytesLess a b || a == b) = !(decide (tlt b a)) := by
    by_cases h1 : tlt a b
    · rw [less_of h1, show decide (tlt b a) = false by simp [tlt_asymm h1]]; rfl
    · rw [less_not h1]
      by_cases h2 : a = b
      · subst h2
        rw [show decide (tlt a a) = false by simp [tlt_irrefl a]]; simp
      · rw [show decide (tlt b a) = true by simp [tlt_total h1 h2]]; simp [h2]
  rw [← h]; simp [binOp, Op.stringOp]
end Go.Proofs.Ytieknhhhcjdbnaa

/- The order of texts, by ">". No program; no condition. -/
namespace Go.Proofs.Ytieknhhhcjdbnaa
open Go.RowKit
set_option linter.unusedVariables false
set_option linter.unusedSimpArgs false
set_option maxRecDepth 100000

theorem binOp_gtr_tx (t : TypeId) (a b : List UInt8) : binOp .gtr t (.string ⟨a.toArray⟩) (.string ⟨b.toArray⟩) = pure (.bool (decide (tlt b a))) := by
  have h : (!(Op.bytesLess a b || a == b)) = decide (tlt b a) := by
    by_cases h1 : tlt a b
    · rw [less_of h1, show decide (tlt b a) = false by simp [tlt_asymm h1]]; rfl
    · rw [less_not h1]
      by_cases h2 : a = b
      · subst h2
        rw [show decide (tlt a a) = false by simp [tlt_irrefl a]]; simp
      · rw [show decide (tlt b a) = true by simp [tlt_total h1 h2]]; simp [h2]
  rw [← h]; simp [binOp, Op.stringOp]
end Go.Proofs.Ytieknhhhcjdbnaa
