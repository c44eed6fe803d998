/- The walk of the statement ZoneMay under contracts of the program's May and Refutes, of the document's May, and of the law's example. -/
import Derived.BigQuiet
import Derived.Deep.QuietTactic
import Derived.Lib.QuietBelow
import Derived.Deep.DeepCutAuto
import Derived.Deep.RegionLaw
import Derived.Deep.CutBlock
import Derived.Test.YtobophhlcekngaaDoorZnSize
import Derived.Test.YtobophhlcekngaaDoorZonesIn
import Derived.Test.YtobophhlcekngaaDoorJ3
import Derived.Test.YtobophhlcekngaaDoorJ4
namespace Go.Proofs.YtobophhlcekngaaDoor
open Go.RowKit
set_option linter.unusedVariables false
set_option linter.unusedSimpArgs false
set_option maxRecDepth 100000

/-- Truths that may be, handed over. -/
def tW (t : Tr3) : Value := .agg #[.bool t.1, .bool t.2.1, .bool t.2.2]
theorem eql3 (a b c : Bool) (w : World) : (binOp .eql 29 (.agg #[.bool a, .bool b, .bool c]) (.agg #[.bool a, .bool b, .bool c])).run Tryd.prog w = .ok (.bool true) w := by
  cases a <;> cases b <;> cases c <;> kernel_rfl
/-- A function answers which truths may be, of what the law looks at, from a world on. -/
def MayC (w0 : World) (F : FuncId) : Prop := ∀ (W : World), Below w0.heap.size w0 W → ∀ (f : Nat) (P : Nat → Prop) (c0 c1 c2 c3 : Value) (p : Pd) (rows : Int) (A : Option Addr) (n c : Nat) (zl : List Zn), IsP f W P [c0, c1, c2, c3] p → (∀ k, WfP k p) → szP 400 40 p ≤ 400 → Reads W W.heap.size 8 A n (zcs zl) → n ≤ 100 → In64 rows →
  Calls Tryd.prog F #[.agg #[c0, c1, c2, c3], .int .i64 rows, .slice A n c] W fun e w' => e = .returned (tW (mayP rows zl p)) ∧ Below W.heap.size W w'
/-- The program's Refutes: True may not be. -/
def RefuC (w0 : World) : Prop := ∀ (W : World), Below w0.heap.size w0 W → ∀ (f : Nat) (P : Nat → Prop) (c0 c1 c2 c3 : Value) (p : Pd) (rows : Int) (A : Option Addr) (n c : Nat) (zl : List Zn), IsP f W P [c0, c1, c2, c3] p → (∀ k, WfP k p) → szP 400 40 p ≤ 400 → Reads W W.heap.size 8 A n (zcs zl) → n ≤ 100 → In64 rows →
  Calls Tryd.prog 8 #[.agg #[c0, c1, c2, c3], .int .i64 rows, .slice A n c] W fun e w' => e = .returned (.bool (!(mayP rows zl p).2.2)) ∧ Below W.heap.size W w'
/-- The law's example holds. -/
def AwakeZC (w0 : World) : Prop := ∀ W : World, Below w0.heap.size w0 W → Calls Tryd.prog 5 #[] W fun e w' => e = .returned (.bool true) ∧ Below W.heap.size W w'
theorem small_any {M : Nat} (hM : (M : Int) ≤ 4611686018427387904) {w : World} {f : Nat} {P : Nat → Prop} {c0 c1 c2 c3 : Value} {p : Pd} (hI : IsP f w P [c0, c1, c2, c3] p) (hl : ∀ k, LenP M k p) :
    Calls Tryd.prog 4 #[.agg #[c0, c1, c2, c3]] w fun e w' => e = .returned (.bool (decide (szP 400 40 p ≤ 400))) ∧ Below w.heap.size w w' := by
  have HB : Hid (∀ o, Below w.heap.size w (w.alloc o)) := Lib.hid fun o => (Below.refl _ _).alloc (Nat.le_refl _) o
  have HS := Lib.hid fun (W : World) (hb : Below w.heap.size w W) => refSize_any hM 400 (by omega) (by omega) 40 (by omega) W f P c0 c1 c2 c3 p (hI.next hb) hl
  obtain ⟨s, hs⟩ : ∃ s, szP 400 40 p = s := ⟨_, rfl⟩
  rw [hs] at HS ⊢
  have h4 := hI.four.2
  have f0 := h4 c0 (by simp); have f1 := h4 c1 (by simp); have f2 := h4 c2 (by simp); have f3 := h4 c3 (by simp)
  clear hs hI hl h4
  go_enter Tryd.func4, Tryd.ntmps4
  go_wp2_with fail
  refine (HS.out _ (HB.out _)).mono ?_
  rintro e w1 ⟨rfl, hb⟩
  go_wp2_with fail
  go_ret
  exact ⟨rfl, (HB.out _).trans (hb.mono (HB.out _).size)⟩
section
variable {M : Nat} {w : World} {f : Nat} {P : Nat → Prop} {c0 c1 c2 c3 : Value} {p : Pd} {rows : Int} {A : Option Addr} {n c : Nat} {zl : List Zn}
theorem mayZ_else (hM : (M : Int) ≤ 4611686018427387904) (ha : AwakeZC w) (hI : IsP f w P [c0, c1, c2, c3] p) (hl : ∀ k, LenP M k p) (h : ¬ szP 400 40 p ≤ 400 ∨ 100 < n) :
    Calls Tryd.prog 3 #[.agg #[c0, c1, c2, c3], .int .i64 rows, .slice A n c] w fun e w' => e = .returned (.bool true) ∧ Below w.heap.size w w' := by
  have HB : Hid (∀ o, Below w.heap.size w (w.alloc o)) := Lib.hid fun o => (Below.refl _ _).alloc (Nat.le_refl _) o
  have HS := Lib.hid fun (W : World) (hb : Below w.heap.size w W) => small_any hM (hI.next hb) hl
  have HA := Lib.hid ha
  obtain ⟨s, hs⟩ : ∃ s, decide (szP 400 40 p ≤ 400) = s := ⟨_, rfl⟩
  have hs2 : s = false ∨ 100 < n := by
    rcases h with h | h
    · exact .inl (by rw [← hs]; simpa using h)
    · exact .inr h
  rw [hs] at HS
  have h4 := hI.four.2
  have f0 := h4 c0 (by simp); have f1 := h4 c1 (by simp); have f2 := h4 c2 (by simp); have f3 := h4 c3 (by simp)
  clear hs hI hl h4 h ha
  cases s
  case' true =>
    have h5 : 100 < n := hs2.resolve_left (by simp)
    have d1 : decide ((100 : Int) < (n : Int)) = true := by simp; omega
  all_goals
    clear hs2
    go_enter Tryd.func3, Tryd.ntmps3
    go_wp2_with fail
    refine (HS.out _ (HB.out _)).mono ?_
    rintro e w1 ⟨rfl, hb⟩
    have hb1 := (HB.out _).trans (hb.mono (HB.out _).size)
    go_wp2_with fail
    refine (HA.out _ hb1).mono ?_
    rintro e w2 ⟨rfl, hb2⟩
    go_wp2_with fail
    go_ret
    exact ⟨rfl, hb1.trans (hb2.mono hb1.size)⟩
set_option maxHeartbeats 4000000 in
theorem mayZ_main (hM : (M : Int) ≤ 4611686018427387904) (ha : AwakeZC w) (h1 : MayC w 6) (h2 : MayC w 7) (h3 : RefuC w) (hI : IsP f w P [c0, c1, c2, c3] p) (hl : ∀ k, LenP M k p) (hw : ∀ k, WfP k p) (hz : Reads w w.heap.size 8 A n (zcs zl)) (hr : In64 rows) (hs : szP 400 40 p ≤ 400) (hn : n ≤ 100) :
    Calls Tryd.prog 3 #[.agg #[c0, c1, c2, c3], .int .i64 rows, .slice A n c] w fun e w' => e = .returned (.bool true) ∧ Below w.heap.size w w' := by
  have HS := Lib.hid fun (W : World) (hb : Below w.heap.size w W) => small_any hM (hI.next hb) hl
  have H1 := Lib.hid fun (W : World) (hb : Below w.heap.size w W) => h1 W hb f P c0 c1 c2 c3 p rows A n c zl (hI.next hb) hw hs ((hz.below hb).more hb.size) hn hr
  have H2 := Lib.hid fun (W : World) (hb : Below w.heap.size w W) => h2 W hb f P c0 c1 c2 c3 p rows A n c zl (hI.next hb) hw hs ((hz.below hb).more hb.size) hn hr
  have H3 := Lib.hid fun (W : World) (hb : Below w.heap.size w W) => h3 W hb f P c0 c1 c2 c3 p rows A n c zl (hI.next hb) hw hs ((hz.below hb).more hb.size) hn hr
  have HA := Lib.hid ha
  rw [show decide (szP 400 40 p ≤ 400) = true by simpa using hs] at HS
  obtain ⟨⟨t0, t1, t2⟩, ht⟩ : ∃ t, mayP rows zl p = t := ⟨_, rfl⟩
  rw [ht] at H1 H2 H3
  simp only [tW] at H1 H2 H3
  have h4 := hI.four.2
  have f0 := h4 c0 (by simp); have f1 := h4 c1 (by simp); have f2 := h4 c2 (by simp); have f3 := h4 c3 (by simp)
  have d1 : decide ((100 : Int) < (n : Int)) = false := by simp; omega
  have B0 : Below w.heap.size w (w.alloc (.cells #[c0, c1, c2, c3] 25)) := (Below.refl _ _).alloc (Nat.le_refl _) _
  have K0 := Blk.new w 25 #[c0, c1, c2, c3]
  have HB0 := Lib.hid B0; have HK0 := Lib.hid K0
  clear h1 h2 h3 ha hI hl hw hz hs h4 ht hr B0 K0
  go_enter Tryd.func3, Tryd.ntmps3
  go_wp2_with fail
  refine (HS.out _ HB0.out).mono ?_
  rintro e w1 ⟨rfl, hb1⟩
  have A1 := HB0.out.trans (hb1.mono HB0.out.size)
  have K1 := HK0.out.below hb1 HK0.out.lt
  have HA1 := Lib.hid A1; have HK1 := Lib.hid K1
  obtain ⟨x0, x1, x2, x3⟩ := blk4' K1
  clear A1 K1 hb1 HB0 HK0 HS
  go_wp2_with fail
  refine (H1.out _ HA1.out).mono ?_
  rintro e w2 ⟨rfl, hb2⟩
  have A2 := HA1.out.trans (hb2.mono HA1.out.size)
  have K2 := HK1.out.below hb2 HK1.out.lt
  have A3 := A2.alloc A2.size (.cells #[.bool t0, .bool t1, .bool t2] 29)
  have K3 := K2.alloc (.cells #[.bool t0, .bool t1, .bool t2] 29)
  have K4 := Blk.new w2 29 #[.bool t0, .bool t1, .bool t2]
  have HA3 := Lib.hid A3; have HK3 := Lib.hid K3; have HK4 := Lib.hid K4
  clear A2 K2 A3 K3 K4 hb2 HA1 HK1 x0 x1 x2 x3 H1
  go_upto_region 4 with fail
  obtain ⟨w3, hw3⟩ : ∃ q, q = w2.alloc (.cells #[.bool t0, .bool t1, .bool t2] 29) := ⟨_, rfl⟩
  rw [← hw3] at HA3 HK3 HK4 ⊢
  clear hw3
  obtain ⟨x0, x1, x2, x3⟩ := blk4' HK3.out
  obtain ⟨y0, y1, y2⟩ := blk3 HK4.out
  have r0 := cell_regrown x0; have r1 := cell_regrown x1; have r2 := cell_regrown x2; have r3 := cell_regrown x3
  have s0 := cell_regrown y0; have s1 := cell_regrown y1; have s2 := cell_regrown y2
  have g1 : Hid (Yields w3.heap.size w3 7 #[.agg #[c0, c1, c2, c3], .int .i64 rows, .slice A n c] (.agg #[.bool t0, .bool t1, .bool t2])) := Lib.hid fun V hbV => (H2.out V (HA3.out.trans (hbV.mono HA3.out.size))).mono fun e w' ⟨he, hb'⟩ => ⟨he, hbV.trans (hb'.mono hbV.size)⟩
  have g2 : Hid (Yields w3.heap.size w3 8 #[.agg #[c0, c1, c2, c3], .int .i64 rows, .slice A n c] (.bool (!t2))) := Lib.hid fun V hbV => (H3.out V (HA3.out.trans (hbV.mono HA3.out.size))).mono fun e w' ⟨he, hb'⟩ => ⟨he, hbV.trans (hb'.mono hbV.size)⟩
  have g3 : Hid (Yields w3.heap.size w3 5 #[] (.bool true)) := Lib.hid fun V hbV => (HA.out V (HA3.out.trans (hbV.mono HA3.out.size))).mono fun e w' ⟨he, hb'⟩ => ⟨he, hbV.trans (hb'.mono hbV.size)⟩
  have hEq := eql3 t0 t1 t2
  have q0 : (t0 == t0) = true := by simp
  have q1 : (t1 == t1) = true := by simp
  have q2 : (t2 == t2) = true := by simp
  have q3 : ((!t2) == (!t2)) = true := by simp
  clear H2 H3 HA x0 x1 x2 x3 y0 y1 y2 HK3 HK4
  refine wp_region_quiet_below (by kernel_rfl) (by kernel_rfl) ?_
  repeat (go_big_quiet_step (first | (go_at_call 7; with_reducible exact g1.out.quiet _ _) | (go_at_call 8; with_reducible exact g2.out.quiet _ _) | (go_at_call 5; with_reducible exact g3.out.quiet _ _)))
  refine wpQuiet_nil ?_
  intro V hV
  have hbp : Below w.heap.size w V := by obtain ⟨pp, e⟩ := hV; subst e; exact HA3.out.trans ((below_regrown w3 pp.d pp.os).mono HA3.out.size)
  clear hV g1 g2 g3 r0 r1 r2 r3 s0 s1 s2 HA3
  go_wp2_with fail
  go_ret
  exact ⟨by first | rfl | simp, hbp⟩
theorem mayZ_any (hM : (M : Int) ≤ 4611686018427387904) (ha : AwakeZC w) (h1 : MayC w 6) (h2 : MayC w 7) (h3 : RefuC w) (hI : IsP f w P [c0, c1, c2, c3] p) (hl : ∀ k, LenP M k p) (hw : ∀ k, WfP k p) (hz : Reads w w.heap.size 8 A n (zcs zl)) (hr : In64 rows) :
    Calls Tryd.prog 3 #[.agg #[c0, c1, c2, c3], .int .i64 rows, .slice A n c] w fun e w' => e = .returned (.bool true) ∧ Below w.heap.size w w' := by
  by_cases h : szP 400 40 p ≤ 400
  · by_cases h' : n ≤ 100
    · exact mayZ_main hM ha h1 h2 h3 hI hl hw hz hr h h'
    · exact mayZ_else hM ha hI hl (.inr (by omega))
  · exact mayZ_else hM ha hI hl (.inl h)
end
end Go.Proofs.YtobophhlcekngaaDoor
