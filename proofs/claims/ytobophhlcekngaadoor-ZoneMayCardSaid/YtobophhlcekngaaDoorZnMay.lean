/- Contract of the document's May of layer 17, where no part is asked. -/
import Derived.Laws.Rows
import Derived.BigQuiet
import Derived.Deep.QuietTactic
import Derived.WalkSmall
import Derived.Test.YtobophhlcekngaaDoorZnForm
import Derived.Test.YtobophhlcekngaaDoorZnMayW
namespace Go.Proofs.YtobophhlcekngaaDoor
open Go.RowKit
set_option linter.unusedVariables false
set_option linter.unusedSimpArgs false
set_option maxRecDepth 100000

/-- The result's three cells are stored. -/
theorem store3 {w W : World} {R : Nat} {t : TypeId} {z0 z1 z2 : Value} (hR : Blk W R t #[z0, z1, z2]) (hb : Below w.heap.size w W) (hwR : w.heap.size ≤ R) (u0 u1 u2 : Value) :
    Blk (((W.setCell ⟨R, 0, none⟩ u0).setCell ⟨R, 1, none⟩ u1).setCell ⟨R, 2, none⟩ u2) R t #[u0, u1, u2] ∧ Below w.heap.size w (((W.setCell ⟨R, 0, none⟩ u0).setCell ⟨R, 1, none⟩ u1).setCell ⟨R, 2, none⟩ u2) := by
  have b3 := ((hR.set_ 0 u0).set_ 1 u1).set_ 2 u2
  have g3 := ((hb.setCell (p := ⟨R, 0, none⟩) hwR u0).setCell (p := ⟨R, 1, none⟩) hwR u1).setCell (p := ⟨R, 2, none⟩) hwR u2
  exact ⟨by simpa using b3, g3⟩
section
variable {w : World} {op col rows : Int} {A A' Az : Option Addr} {v c n c' m cz : Nat}
theorem may_none (hr : rows < 1) :
    Calls Tryd.prog 6 #[.agg #[.int .i64 op, .int .i64 col, .slice A v c, .slice A' n c'], .int .i64 rows, .slice Az m cz] w fun e w' => e = .returned (tW (false, false, false)) ∧ Below w.heap.size w w' := by
  have d1 : decide (rows < 1) = true := by simpa using hr
  have K1 := Blk.new (w.alloc (.cells #[.int .i64 op, .int .i64 col, .slice A v c, .slice A' n c'] 25)) 29 #[.bool false, .bool false, .bool false]
  have HB := ((Below.refl w.heap.size w).alloc (Nat.le_refl _) (.cells #[.int .i64 op, .int .i64 col, .slice A v c, .slice A' n c'] 25)).alloc (by simp) (.cells #[.bool false, .bool false, .bool false] 29)
  rw [World.size_alloc] at K1
  have F1 := Lib.hid K1; have F2 := Lib.hid HB
  clear K1 HB hr
  simp only [tW]
  go_enter Tryd.func6, Tryd.ntmps6
  go_wp2_with fail
  exact bodyPost_ret (v := .agg #[.bool false, .bool false, .bool false]) (results_cell_row rfl _ _ _ _ _ _ _ (by rfl) F1.out Tryd.underlying29 rfl (by kernel_rfl)) rfl ⟨rfl, F2.out⟩
set_option maxHeartbeats 2000000 in
theorem may_wrong (hr : 1 ≤ rows) (h : ¬ frmZ op col v n ∨ (1 ≤ op ∧ op ≤ 9) ∧ (col < 0 ∨ (m : Int) ≤ col)) :
    Calls Tryd.prog 6 #[.agg #[.int .i64 op, .int .i64 col, .slice A v c, .slice A' n c'], .int .i64 rows, .slice Az m cz] w fun e w' => e = .returned (tW (true, true, true)) ∧ Below w.heap.size w w' := by
  have d1 : decide (rows < 1) = false := by simp; omega
  have HF := Lib.hid fun (W : World) => refFormed_any op col A A' v c n c' W
  obtain ⟨q, hq⟩ : ∃ q, decide (frmZ op col v n) = q := ⟨_, rfl⟩
  obtain ⟨b1, hb1⟩ : ∃ q, decide ((1 : Int) ≤ op) = q := ⟨_, rfl⟩
  obtain ⟨b2, hb2⟩ : ∃ q, decide (op ≤ 9) = q := ⟨_, rfl⟩
  obtain ⟨b3, hb3⟩ : ∃ q, decide (col < 0) = q := ⟨_, rfl⟩
  obtain ⟨b4, hb4⟩ : ∃ q, decide ((m : Int) ≤ col) = q := ⟨_, rfl⟩
  rw [hq] at HF
  have hc : q = false ∨ (b1 = true ∧ b2 = true) ∧ (b3 = true ∨ b4 = true) := by
    rcases h with h | ⟨⟨h1, h2⟩, h3⟩
    · exact .inl (by rw [← hq]; simpa using h)
    · exact .inr ⟨⟨by rw [← hb1]; simpa using h1, by rw [← hb2]; simpa using h2⟩, h3.imp (fun h => by rw [← hb3]; simpa using h) (fun h => by rw [← hb4]; simpa using h)⟩
  have K1 := Blk.new (w.alloc (.cells #[.int .i64 op, .int .i64 col, .slice A v c, .slice A' n c'] 25)) 29 #[.bool false, .bool false, .bool false]
  have K0 := (Blk.new w 25 #[.int .i64 op, .int .i64 col, .slice A v c, .slice A' n c']).alloc (.cells #[.bool false, .bool false, .bool false] 29)
  have HB := ((Below.refl w.heap.size w).alloc (Nat.le_refl _) (.cells #[.int .i64 op, .int .i64 col, .slice A v c, .slice A' n c'] 25)).alloc (by simp) (.cells #[.bool false, .bool false, .bool false] 29)
  rw [World.size_alloc] at K1
  have HK1 := Lib.hid K1; have HK0 := Lib.hid K0; have HHB := Lib.hid HB
  have HHC := Lib.hid hc
  clear K1 K0 HB hc h hq hr
  simp only [tW]
  cases q <;> cases b1 <;> cases b2 <;> cases b3 <;> cases b4
  all_goals
    first
      | (exfalso; have := HHC.out; simp at this; done)
      | (clear HHC
         go_enter Tryd.func6, Tryd.ntmps6
         go_wp2_with fail
         refine (HF.out _).mono ?_
         rintro e w1 ⟨rfl, hb⟩
         have hb0 := HHB.out.trans (hb.mono HHB.out.size)
         have k1 := HK1.out.below hb HK1.out.lt
         obtain ⟨x0, x1, x2, x3⟩ := blk4' (HK0.out.below hb HK0.out.lt)
         obtain ⟨r0, r1, r2⟩ := blk3 k1
         have z0 := k1.frozen 0; have z1 := k1.frozen 1; have z2 := k1.frozen 2
         obtain ⟨f1, f2⟩ := store3 k1 hb0 (by omega) (.bool true) (.bool true) (.bool true)
         have F1 := Lib.hid f1; have F2 := Lib.hid f2
         clear f1 f2 k1 hb0 hb
         go_wp2_with fail
         exact bodyPost_ret (v := .agg #[.bool true, .bool true, .bool true]) (results_cell_row rfl _ _ _ _ _ _ _ (by rfl) F1.out Tryd.underlying29 rfl (by kernel_rfl)) rfl ⟨rfl, F2.out⟩)
theorem may_true (hr : 1 ≤ rows) (hf : frmZ 0 col v n) :
    Calls Tryd.prog 6 #[.agg #[.int .i64 0, .int .i64 col, .slice A v c, .slice A' n c'], .int .i64 rows, .slice Az m cz] w fun e w' => e = .returned (tW (false, false, true)) ∧ Below w.heap.size w w' := by
  have d1 : decide (rows < 1) = false := by simp; omega
  have HF := Lib.hid fun (W : World) => refFormed_any 0 col A A' v c n c' W
  rw [show decide (frmZ 0 col v n) = true by simpa using hf] at HF
  have K1 := Blk.new (w.alloc (.cells #[.int .i64 0, .int .i64 col, .slice A v c, .slice A' n c'] 25)) 29 #[.bool false, .bool false, .bool false]
  have K0 := (Blk.new w 25 #[.int .i64 0, .int .i64 col, .slice A v c, .slice A' n c']).alloc (.cells #[.bool false, .bool false, .bool false] 29)
  have HB := ((Below.refl w.heap.size w).alloc (Nat.le_refl _) (.cells #[.int .i64 0, .int .i64 col, .slice A v c, .slice A' n c'] 25)).alloc (by simp) (.cells #[.bool false, .bool false, .bool false] 29)
  rw [World.size_alloc] at K1
  have HK1 := Lib.hid K1; have HK0 := Lib.hid K0; have HHB := Lib.hid HB
  clear K1 K0 HB hf hr
  simp only [tW]
  go_enter Tryd.func6, Tryd.ntmps6
  go_wp2_with fail
  refine (HF.out _).mono ?_
  rintro e w1 ⟨rfl, hb⟩
  have hb0 := HHB.out.trans (hb.mono HHB.out.size)
  have k1 := HK1.out.below hb HK1.out.lt
  obtain ⟨x0, x1, x2, x3⟩ := blk4' (HK0.out.below hb HK0.out.lt)
  obtain ⟨r0, r1, r2⟩ := blk3 k1
  have z0 := k1.frozen 0; have z1 := k1.frozen 1; have z2 := k1.frozen 2
  obtain ⟨f1, f2⟩ := store3 k1 hb0 (by omega) (.bool false) (.bool false) (.bool true)
  have F1 := Lib.hid f1; have F2 := Lib.hid f2
  clear f1 f2 k1 hb0 hb
  go_wp2_with fail
  exact bodyPost_ret (v := .agg #[.bool false, .bool false, .bool true]) (results_cell_row rfl _ _ _ _ _ _ _ (by rfl) F1.out Tryd.underlying29 rfl (by kernel_rfl)) rfl ⟨rfl, F2.out⟩
/-- A zone of a slice of them. -/
theorem Reads.zone {w : World} {B n : Nat} {A : Option Addr} {l : List Zn} (h : Reads w B 8 A n (zcs l)) {k : Nat} {z : Zn} (hv : l[k]? = some z) :
    ∃ b o, A = some ⟨b, o, none⟩ ∧ b < B ∧ ∀ j, j < 8 → w.cell? ⟨b, o + k * 8 + j, none⟩ = (zc z)[j]? := by
  have hk : k < l.length := (List.getElem?_eq_some_iff.1 hv).1
  have hn : 0 < n := by have := h.1; rw [zcs_length] at this; omega
  obtain ⟨⟨b, o, sp⟩, rfl, hb, hc⟩ := h.2 hn
  have hl : 0 < (zcs l).length := by rw [zcs_length]; omega
  obtain rfl : sp = none := by simpa [Addr.add] using World.cell?_spot (hc 0 _ (List.getElem?_eq_getElem hl))
  refine ⟨b, o, rfl, hb, fun j hj => ?_⟩
  have h1 := zcs_at hv hj
  have h2 : (zc z)[j]? = some ((zc z)[j]'(by rw [zc_length]; exact hj)) := List.getElem?_eq_getElem _
  have h3 := hc _ _ (h1.trans h2)
  rw [plain_add] at h3
  rw [h2, ← h3, Nat.add_assoc]
end
end Go.Proofs.YtobophhlcekngaaDoor
