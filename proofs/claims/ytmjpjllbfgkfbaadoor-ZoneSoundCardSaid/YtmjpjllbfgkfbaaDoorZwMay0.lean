/- Contracts of zone's May, whatever the rows, and of its Refutes. -/
import Derived.Test.YtmjpjllbfgkfbaaDoorZwMay
import Derived.Test.YtmjpjllbfgkfbaaDoorZnMayK
namespace Go.Proofs.YtmjpjllbfgkfbaaDoor
open Go.RowKit
set_option linter.unusedVariables false
set_option linter.unusedSimpArgs false
set_option maxRecDepth 100000
attribute [local go_sem] Oper.semAt_some wide_fn wide_depth

set_option maxHeartbeats 1000000 in
theorem may_zero (w : World) (c0 c1 c2 c3 : Value) (h4 : ∀ u ∈ [c0, c1, c2, c3], u.oneCell' = true) (rows : Int) (Az : Option Addr) (m cz : Nat) (hr : rows < 1) :
    Calls Tryd.prog 22 #[.agg #[c0, c1, c2, c3], .int .i64 rows, .slice Az m cz] w fun e w' => e = .returned (tW (false, false, false)) ∧ Below w.heap.size w w' := by
  have d1 : decide (rows < 1) = true := by simp; omega
  have f0 := h4 c0 (by simp); have f1 := h4 c1 (by simp); have f2 := h4 c2 (by simp); have f3 := h4 c3 (by simp)
  have HB := ((((Below.refl w.heap.size w).alloc (Nat.le_refl _) (.cells #[c0, c1, c2, c3] 26)).alloc (by simp) (.cells #[.int .i64 rows] 3)).alloc (by simp; omega) (.cells #[.slice Az m cz] 34)).alloc (by simp; omega) (.cells #[.bool false, .bool false, .bool false] 56)
  have K := Blk.new (((w.alloc (.cells #[c0, c1, c2, c3] 26)).alloc (.cells #[.int .i64 rows] 3)).alloc (.cells #[.slice Az m cz] 34)) 56 #[.bool false, .bool false, .bool false]
  simp only [World.size_alloc] at K
  have HHB := Lib.hid HB; have HK := Lib.hid K
  clear HB K h4
  refine (callsIn_wide (n := 0)).1 ?_
  refine callsIn_of_wp_marks Tryd.func22 rfl trivial ?_ rfl
  simp only [Tryd.ntmps22, List.size_toArray, List.length_cons, List.length_nil, Nat.reduceAdd, Nat.reduceSub, Array.replicate_succ, Array.replicate_zero, List.push_toArray, List.append_toArray, List.nil_append, List.cons_append]
  gi_wp2
  exact ⟨.agg #[.bool false, .bool false, .bool false], results_cell_row rfl _ _ _ _ _ _ _ (by rfl) HK.out Tryd.underlying56 rfl (by kernel_rfl), ret_of (by rfl), HHB.out⟩
theorem mayP_zero (rows : Int) (zl : List Zn) (p : Pd) (hr : rows < 1) : mayP rows zl p = (false, false, false) := by
  obtain ⟨op, col, vals, parts⟩ := p
  rw [mayP, if_pos hr]
/-- The program's May, of what the law looks at. -/
theorem may_any (hF : FmdC) {w0 : World} (h0 : Shp w0) : MayC w0 22 := by
  intro W hb f P c0 c1 c2 c3 p rows A n c zl hI hw hs hz hn hr
  by_cases h : rows < 1
  · rw [mayP_zero rows zl p h]
    exact may_zero W c0 c1 c2 c3 hI.four.2 rows A n c h
  · obtain ⟨h1, h2⟩ := sz_small 400 (by omega) (by omega) 40 p hs
    exact may_main hF f W P c0 c1 c2 c3 p rows A n c zl hI (h1 f) (by omega) (by omega) hz hn (h0.next hb)
theorem idx3 (a b c : Bool) (w : World) : (Instr.index 56 (.agg #[.bool a, .bool b, .bool c]) (.int .i64 2)).run Tryd.prog w = .ok (.bool c) w := by
  cases a <;> cases b <;> cases c <;> kernel_rfl
/-- The program's Refutes. -/
theorem refutes_any {w0 : World} (hM : MayC w0 22) : RefuC w0 := by
  intro W hb f P c0 c1 c2 c3 p rows A n c zl hI hw hs hz hn hr
  have hbx : Below W.heap.size W (W.alloc (.cells #[c0, c1, c2, c3] 26)) := (Below.refl _ _).alloc (Nat.le_refl _) _
  have HM := Lib.hid (hM _ (hb.trans (hbx.mono hb.size)) f P c0 c1 c2 c3 p rows A n c zl (hI.next hbx) hw hs ((hz.below hbx).more hbx.size) hn hr)
  obtain ⟨⟨t0, t1, t2⟩, ht⟩ : ∃ t, mayP rows zl p = t := ⟨_, rfl⟩
  rw [ht] at HM ⊢
  simp only [tW] at HM
  have h4 := hI.four.2
  have f0 := h4 c0 (by simp); have f1 := h4 c1 (by simp); have f2 := h4 c2 (by simp); have f3 := h4 c3 (by simp)
  obtain ⟨x0, x1, x2, x3⟩ := blk4' (Blk.new W 26 #[c0, c1, c2, c3])
  have HBX := Lib.hid hbx
  have hix := idx3 t0 t1 t2
  clear hI hw hs hz hn hr hb ht h4 hbx hM
  go_enter Tryd.func13, Tryd.ntmps13
  go_wp2_with fail
  refine HM.out.mono ?_
  rintro e w1 ⟨rfl, hb⟩
  go_wp2_with fail
  go_ret
  exact ⟨by first | rfl | simp, HBX.out.trans (hb.mono HBX.out.size)⟩
end Go.Proofs.YtmjpjllbfgkfbaaDoor
