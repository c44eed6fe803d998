/- Contracts of pred's check and Check at a predicate whose values and parts have nothing in them. -/
import Derived.Test.YtmjpjllbfgkfbaaDoorZwFlt
namespace Go.Proofs.YtmjpjllbfgkfbaaDoor
open Go.RowKit
set_option linter.unusedVariables false
set_option linter.unusedSimpArgs false
set_option maxRecDepth 100000

section
variable {S : Option Addr} {b o nv c np c' m cs : Nat} {op col : Int} {A A' : Option Addr} {w : World}
set_option maxHeartbeats 1000000 in
theorem check_zero (h : Nd w b o 0 0 none 0 0 none 0 0) (hs : Shp w) (hS : Reads w w.heap.size 3 S m (zcl m)) (hm : m ≤ 65536) :
    Calls Tryd.prog 16 #[.slice S m cs, .pointer (some ⟨b, o, none⟩), .int .i64 1] w fun e w' => e = .returned (.int .i64 0) ∧ Below w.heap.size w w' := by
  have HF := Lib.hid (fault_any (cs := cs) h hs hS (show Reads w w.heap.size 3 none 0 (vs (zvs 0)) from Reads.none_) hm (by omega) (by omega))
  rw [show fltE m 0 0 0 0 = 0 from by simp [fltE, fmP, shV, shN, shB]] at HF
  have HN := Lib.hid fun (W : World) (hb : Below w.heap.size w W) => h.next hb
  clear h hs hS
  go_enter Tryd.func16, Tryd.ntmps16
  go_wp2_with fail
  refine HF.out.mono ?_
  rintro e w1 ⟨rfl, hb1⟩
  obtain ⟨_, x0, x1, x2, x3⟩ := HN.out _ hb1
  go_wp2_with fail
  go_loop [7, 8] (fun e s => e = .int .i64 0 ∧ s = .int .i64 0) (fun _ _ => 0)
  case atStart => exact ⟨rfl, rfl⟩
  case round =>
    obtain ⟨rfl, rfl⟩ := hrel
    go_wp2_with fail
    go_ret
    exact ⟨by first | rfl | simp, hb1⟩
set_option maxHeartbeats 1000000 in
theorem check_top (h : Nd w b o op col A nv c A' np c') (hs : Shp w) (hS : Reads w w.heap.size 3 S m (zcl m)) (hv : Reads w w.heap.size 3 A nv (vs (zvs nv))) (hp : Reads w w.heap.size 4 A' np (zpd np)) (hm : m ≤ 65536) (hn : nv ≤ 65536) (hpn : np ≤ 65536) :
    Calls Tryd.prog 16 #[.slice S m cs, .pointer (some ⟨b, o, none⟩), .int .i64 0] w fun e w' => e = .returned (.int .i64 (fltE m op col nv np)) ∧ Below w.heap.size w w' := by
  have HF := Lib.hid (fault_any (cs := cs) h hs hS hv hm hn hpn)
  have HN := Lib.hid fun (W : World) (hb : Below w.heap.size w W) => h.next hb
  have HZ := Lib.hid fun (W : World) (hb : Below w.heap.size w W) (b o : Nat) (hz : Nd W b o 0 0 none 0 0 none 0 0) => check_zero (cs := cs) hz (hs.next hb) ((hS.below hb).more hb.size) hm
  have HP := Lib.hid hp
  obtain ⟨E, hE⟩ : ∃ E, fltE m op col nv np = E := ⟨_, rfl⟩
  rw [hE] at HF ⊢
  clear h hs hS hv hp hE
  go_enter Tryd.func16, Tryd.ntmps16
  go_wp2_with fail
  refine HF.out.mono ?_
  rintro e w1 ⟨rfl, hb1⟩
  have HB1 := Lib.hid hb1
  clear HF hb1
  by_cases h0 : E = 0
  · subst h0
    go_wp2_with fail
    go_loopw [7, 8] (fun e s wr => e = .int .i64 0 ∧ ∃ i : Nat, i ≤ np ∧ s = .int .i64 (i : Int) ∧ Below w.heap.size w wr) (fun _ s _ => np - (intOf s).toNat)
    case atStart => exact ⟨rfl, 0, Nat.zero_le _, rfl, HB1.out⟩
    case round =>
      clear HB1
      obtain ⟨rfl, i, hi, rfl, hb⟩ := hrel
      obtain ⟨_, x0, x1, x2, x3⟩ := HN.out _ hb
      by_cases hlt : i < np
      · obtain ⟨bz, oz, rfl, hbz, y0, y1, y2, y3⟩ := zpd_at (HP.out.below hb) hlt
        have hz : Nd wr bz (oz + i * 4) 0 0 none 0 0 none 0 0 := ⟨Nat.lt_of_lt_of_le hbz hb.size, y0, y1, y2, y3⟩
        have HC := Lib.hid (HZ.out wr hb _ _ hz)
        have hB := Lib.hid hb
        clear hz y0 y1 y2 y3 hb
        go_wp2_with fail
        refine HC.out.mono ?_
        rintro e w2 ⟨rfl, hb2⟩
        go_wp2_with fail
        go_round
        case rel => exact ⟨rfl, i + 1, by omega, by go_num, hB.out.trans (hb2.mono hB.out.size)⟩
        case measure => simp [intOf]; omega
      · have hB := Lib.hid hb
        clear hb
        go_wp2_with fail
        go_ret
        exact ⟨by first | rfl | simp, hB.out⟩
  · have q : (E == 0) = false := by simpa using h0
    obtain ⟨_, x0, x1, x2, x3⟩ := HN.out _ HB1.out
    clear h0 HZ HP HN
    go_wp2_with fail
    go_loop [7, 8] (fun e s => e = .int .i64 E ∧ s = .int .i64 0) (fun _ _ => 0)
    case atStart => exact ⟨rfl, rfl⟩
    case round =>
      obtain ⟨rfl, rfl⟩ := hrel
      go_wp2_with fail
      all_goals
        go_ret
        exact ⟨by first | rfl | simp, HB1.out⟩
theorem Check_any (hs : Shp w) (hS : Reads w w.heap.size 3 S m (zcl m)) (hv : Reads w w.heap.size 3 A nv (vs (zvs nv))) (hp : Reads w w.heap.size 4 A' np (zpd np)) (hm : m ≤ 65536) (hn : nv ≤ 65536) (hpn : np ≤ 65536) :
    Calls Tryd.prog 6 #[.slice S m cs, .agg #[.int .i64 op, .int .i64 col, .slice A nv c, .slice A' np c']] w fun e w' => e = .returned (.int .i64 (fltE m op col nv np)) ∧ Below w.heap.size w w' := by
  have hal := (Below.refl w.heap.size w).alloc (Nat.le_refl _) (.cells #[.int .i64 op, .int .i64 col, .slice A nv c, .slice A' np c'] 26)
  have hk := Blk.new w 26 #[.int .i64 op, .int .i64 col, .slice A nv c, .slice A' np c']
  have hN : Nd (w.alloc (.cells #[.int .i64 op, .int .i64 col, .slice A nv c, .slice A' np c'] 26)) w.heap.size 0 op col A nv c A' np c' := ⟨by simp, hk.cell 0, hk.cell 1, hk.cell 2, hk.cell 3⟩
  have HC := Lib.hid (check_top (cs := cs) hN (hs.next hal) ((hS.below hal).more hal.size) ((hv.below hal).more hal.size) ((hp.below hal).more hal.size) hm hn hpn)
  have HA := Lib.hid hal
  obtain ⟨E, hE⟩ : ∃ E, fltE m op col nv np = E := ⟨_, rfl⟩
  rw [hE] at HC ⊢
  clear hs hS hv hp hal hk hN hE
  go_enter Tryd.func6, Tryd.ntmps6
  go_wp2_with fail
  refine HC.out.mono ?_
  rintro e w1 ⟨rfl, hb1⟩
  go_wp2_with fail
  go_ret
  exact ⟨by first | rfl | simp, HA.out.trans (hb1.mono HA.out.size)⟩
end
/-- So a predicate is formed as it should be, where its values and parts are as many, or more than may be. -/
theorem fltE_ok (m : Nat) (op col : Int) (nv np : Nat) : (fltE m op col (min nv 257) (min np 257) = 0 ∨ fltE m op col (min nv 257) (min np 257) = 11) ↔ (frmZ op col nv np ∧ (1 ≤ op ∧ op ≤ 9 → 0 ≤ col ∧ col < (m : Int))) := by
  unfold fltE
  by_cases h1 : 256 < nv
  · rw [if_pos (.inl (by omega))]
    constructor
    · intro h; omega
    · rintro ⟨h, _⟩; unfold frmZ at h; omega
  · by_cases h2 : 256 < np
    · rw [if_pos (.inr (by omega))]
      constructor
      · intro h; omega
      · rintro ⟨h, _⟩; unfold frmZ at h; omega
    · rw [if_neg (by omega), show min nv 257 = nv by omega, show min np 257 = np by omega, fmP_is]
      by_cases h3 : frmZ op col nv np
      · rw [if_neg (by simpa using h3)]
        have hop : 0 ≤ op ∧ op ≤ 12 := by unfold frmZ at h3; omega
        have hb : shB op.toNat = decide (1 ≤ op ∧ op ≤ 9) := by
          unfold shB
          rw [Bool.eq_iff_iff]; simp only [decide_eq_true_iff]; omega
        rw [hb]
        by_cases h4 : 1 ≤ op ∧ op ≤ 9
        · rw [if_neg (by simpa using h4)]
          by_cases h5 : 0 ≤ col ∧ col < (m : Int)
          · rw [if_neg (by simpa using h5)]
            constructor
            · exact fun _ => ⟨h3, fun _ => h5⟩
            · intro _; split <;> omega
          · rw [if_pos (by simpa using h5)]
            constructor
            · intro h; omega
            · rintro ⟨_, h⟩; exact absurd (h h4) h5
        · rw [if_pos (by simpa using h4)]
          constructor
          · exact fun _ => ⟨h3, fun h => absurd h h4⟩
          · exact fun _ => .inl rfl
      · rw [if_pos (by simpa using h3)]
        constructor
        · intro h; omega
        · rintro ⟨h, _⟩; exact absurd h h3
end Go.Proofs.YtmjpjllbfgkfbaaDoor
