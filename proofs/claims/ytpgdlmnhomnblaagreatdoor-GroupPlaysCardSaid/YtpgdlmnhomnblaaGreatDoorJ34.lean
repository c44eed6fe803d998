import Derived.BigQuiet
import Derived.Deep.QuietTactic
import Derived.Deep.DeepCutAuto
import Derived.Deep.CutBlock
import Derived.Laws.ResultCell
import Derived.Laws.Rows
import Derived.Test.YtpgdlmnhomnblaaGreatDoorJ23
import Derived.Test.YtpgdlmnhomnblaaGreatDoorJ33
import Derived.Test.YtpgdlmnhomnblaaGreatDoorJ22
import Derived.Test.YtpgdlmnhomnblaaGreatDoorJ19
import Derived.Test.YtpgdlmnhomnblaaGreatDoorJ1
import Derived.Test.YtpgdlmnhomnblaaGreatDoorJ9
import Derived.Test.YtpgdlmnhomnblaaGreatDoorJ21
import Derived.Test.YtpgdlmnhomnblaaGreatDoorJ3
import Derived.Test.YtpgdlmnhomnblaaGreatDoorJ4
import Derived.Test.YtpgdlmnhomnblaaGreatDoorJ10
import Derived.Test.YtpgdlmnhomnblaaGreatDoorJ6
namespace Go.Proofs.YtpgdlmnhomnblaaGreatDoor
open Go.RowKit
set_option linter.unusedVariables false
set_option linter.unusedSimpArgs false
set_option maxRecDepth 100000
theorem made_bool (n : Nat) : madeCells #[.bool false] n = (bl (fun _ => false) n).toArray := by
  apply Array.ext'
  apply List.ext_getElem?
  intro j
  by_cases hj : j < n
  · rw [List.toList_toArray, bl_at _ hj]
    simp [madeCells, hj, Nat.mod_one]
  · rw [List.getElem?_eq_none (by simp [madeCells]; omega), List.getElem?_eq_none (by rw [List.toList_toArray, bl_length]; omega)]
theorem run_make_bools (n : Nat) (hn : n ≤ 1073741824) (w : World) :
    (Instr.makeSlice 31 (.int .i64 (n : Int)) (.int .i64 (n : Int))).run Tryz.prog w = .ok (.slice (some ⟨w.heap.size, 0, none⟩) n n) (w.alloc (.cells (bl (fun _ => false) n).toArray 4)) := by
  obtain ⟨i, hi, hz0, hz1, hz2⟩ := info_parts info_bool
  have hr := run_make (P := Tryz.prog) w 31 4 i _ Tryz.underlying31 hi hz0 .i64 .i64 n n (by omega) (by omega) (by rw [hz2]; omega) (by omega)
  rw [hz1] at hr
  simp only [Int.toNat_natCast, Value.cells, Nat.mul_one] at hr
  rw [made_bool] at hr
  exact hr
theorem results_cell_tmp_row {P : Program} {fn : Func} {p u : Tmp} {ty : TypeId} (h : fn.results = #[.cell p ty, .tmp u]) (tmps : Array Value) (w : World) (g : Nat) (t : TypeId) (cs : Array Value) (fr : Nat × Nat) (d : TypeDesc)
    (hp : tmps.getD p undef = .pointer (some ⟨g, 0, none⟩)) (hg : w.heap[g]? = some (.cells cs t fr))
    (hu : P.underlying ty = some d) (hd : (match d with | .struct _ | .array _ _ => true | _ => false) = true) (hi : (P.info? ty).map (·.size) = some cs.size) :
    (results fn tmps).run P w = .ok (.tuple #[.agg cs, tmps.getD u undef]) w := by
  have hp' : tmps[p]?.getD undef = .pointer (some ⟨g, 0, none⟩) := by simpa using hp
  rw [results_cell_tmp h]
  simp [hp', asAddr, run_loadVar_row w g t ty cs fr d hg hu hd hi]
section
variable {w : World} {A S : Option Addr} {n c m cs : Nat} {sl : List Cl} {rows : List (List Vl)}
def RefNewG (w : World) (S : Option Addr) (m cs : Nat) (A : Option Addr) (n c : Nat) (E : Int) (e : Ending) (w' : World) : Prop :=
  if E = 0 then ∃ q, e = .returned (.tuple #[.agg #[.slice S m cs, .slice A n c, .slice (some ⟨q, 0, none⟩) n n], .int .i64 0]) ∧ Blk w' q 4 (bl (fun _ => false) n).toArray ∧ w.heap.size ≤ q ∧ Below w.heap.size w w'
  else e = .returned (.tuple #[.agg #[.slice none 0 0, .slice none 0 0, .slice none 0 0], .int .i64 E]) ∧ Below w.heap.size w w'
set_option maxHeartbeats 2000000 in
theorem refNew_G (hS : Reads w w.heap.size 3 S m (cls sl)) (hm : m ≤ 140737488355328) (hV : VV w A rows) (hrn : rows.length = n) (hn : n ≤ 9223372036854775807) (hbig : ∀ r ∈ rows, r.length ≤ 140737488355328) :
    Calls Tryz.prog 7 #[.slice S m cs, .slice A n c] w (RefNewG w S m cs A n c (newE sl rows)) := by
  have HSC := Lib.hid fun (W : World) (hb : Below w.heap.size w W) => (refSchema_any S m cs sl W ((hS.below hb).more hb.size) (by omega)).mono fun e w' ⟨he, hd⟩ => (⟨he, hd.below (Below.refl _ _)⟩ : e = Ending.returned (.int .i64 (scE sl)) ∧ Below W.heap.size W w')
  have HSR := Lib.hid hS
  obtain ⟨us, hu, hus⟩ := hV
  rw [hrn] at hu
  have HE := Lib.hid hrn
  have HU := Lib.hid hus; have HBG := Lib.hid hbig
  have hN : newE sl rows = if scE sl ≠ 0 then scE sl else if rows.length < 1 ∨ 65536 < rows.length then 12 else rowsE sl rows := rfl
  have HN := Lib.hid hN
  clear hS hus hbig hN hrn
  have b0 := (Below.refl w.heap.size w).alloc (Nat.le_refl _) (.cells #[.slice none 0 0, .slice none 0 0, .slice none 0 0] 33)
  have k0 := Blk.new w 33 #[.slice none 0 0, .slice none 0 0, .slice none 0 0]
  go_enter Tryz.func7, Tryz.ntmps7
  go_upto_region 1 with fail
  obtain ⟨W0, hW0⟩ : ∃ q, w.alloc (.cells #[.slice none 0 0, .slice none 0 0, .slice none 0 0] 33) = q := ⟨_, rfl⟩
  rw [hW0] at b0 k0 ⊢
  have HB0 := Lib.hid b0; have HK0 := Lib.hid k0
  clear hW0 b0 k0
  go_wp2_with fail
  refine (HSC.out _ HB0.out).mono ?_
  rintro e w1 ⟨rfl, hb1⟩
  have HB1 := Lib.hid (HB0.out.trans (hb1.mono HB0.out.size)); have HK1 := Lib.hid (HK0.out.below hb1 HK0.out.lt)
  clear hb1 HB0 HK0 HSC
  by_cases hsc : scE sl = 0
  case neg =>
    rw [if_pos hsc] at HN
    obtain ⟨E, hE⟩ : ∃ E, scE sl = E := ⟨_, rfl⟩
    rw [hE] at hsc HN ⊢
    have q1 : (E == 0) = false := by simpa using hsc
    have x0 := HK1.out.cell 0; have x1 := HK1.out.cell 1; have x2 := HK1.out.cell 2
    simp only [List.getElem?_toArray, List.getElem?_cons_zero, List.getElem?_cons_succ] at x0 x1 x2
    have f0 := HK1.out.frozen 0; have f1 := HK1.out.frozen 1; have f2 := HK1.out.frozen 2
    have K9 := Lib.hid (show Blk _ w.heap.size 33 #[.slice none 0 0, .slice none 0 0, .slice none 0 0] by simpa using (((HK1.out.set_ 0 (.slice none 0 0)).set_ 1 (.slice none 0 0)).set_ 2 (.slice none 0 0)))
    have B9 := Lib.hid (((HB1.out.setCell (p := ⟨w.heap.size, 0, none⟩) (Nat.le_refl _) (.slice none 0 0)).setCell (p := ⟨w.heap.size, 1, none⟩) (Nat.le_refl _) (.slice none 0 0)).setCell (p := ⟨w.heap.size, 2, none⟩) (Nat.le_refl _) (.slice none 0 0))
    clear hE
    go_wp2_with fail
    refine bodyPost_ret (v := .tuple #[.agg #[.slice none 0 0, .slice none 0 0, .slice none 0 0], .int .i64 E]) ?_ rfl ?_
    · exact results_cell_tmp_row (p := 4) (u := 5) (ty := 33) rfl _ _ _ _ _ _ _ (by rfl) K9.out Tryz.underlying33 rfl (by kernel_rfl)
    rw [HN.out]
    unfold RefNewG
    rw [if_neg hsc]
    exact ⟨rfl, B9.out⟩
  rw [if_neg (by simpa using hsc)] at HN
  rw [hsc]
  clear hsc
  have hd1 : decide ((n : Int) < 1) = decide (n < 1) := by by_cases h : n < 1 <;> simp [h] <;> omega
  have hd2 : decide ((65536 : Int) < (n : Int)) = decide (65536 < n) := by by_cases h : 65536 < n <;> simp [h] <;> omega
  rw [HE.out] at HN
  by_cases h1 : n < 1 ∨ 65536 < n
  case pos =>
    rw [if_pos h1] at HN
    have hde : decide (n < 1) = false → decide (65536 < n) = true := fun h => by simp at h ⊢; omega
    obtain ⟨a, ha⟩ : ∃ a, decide (n < 1) = a := ⟨_, rfl⟩
    obtain ⟨b, hb⟩ : ∃ b, decide (65536 < n) = b := ⟨_, rfl⟩
    rw [ha] at hd1 hde
    rw [hb] at hd2 hde
    clear ha hb h1
    cases a with
    | true =>
      have x0 := HK1.out.cell 0; have x1 := HK1.out.cell 1; have x2 := HK1.out.cell 2
      simp only [List.getElem?_toArray, List.getElem?_cons_zero, List.getElem?_cons_succ] at x0 x1 x2
      have f0 := HK1.out.frozen 0; have f1 := HK1.out.frozen 1; have f2 := HK1.out.frozen 2
      have K9 := Lib.hid (show Blk _ w.heap.size 33 #[.slice none 0 0, .slice none 0 0, .slice none 0 0] by simpa using (((HK1.out.set_ 0 (.slice none 0 0)).set_ 1 (.slice none 0 0)).set_ 2 (.slice none 0 0)))
      have B9 := Lib.hid (((HB1.out.setCell (p := ⟨w.heap.size, 0, none⟩) (Nat.le_refl _) (.slice none 0 0)).setCell (p := ⟨w.heap.size, 1, none⟩) (Nat.le_refl _) (.slice none 0 0)).setCell (p := ⟨w.heap.size, 2, none⟩) (Nat.le_refl _) (.slice none 0 0))
      go_wp2_with fail
      refine bodyPost_ret (v := .tuple #[.agg #[.slice none 0 0, .slice none 0 0, .slice none 0 0], .int .i64 12]) ?_ rfl ?_
      · exact results_cell_tmp_row (p := 4) (u := 5) (ty := 33) rfl _ _ _ _ _ _ _ (by rfl) K9.out Tryz.underlying33 rfl (by kernel_rfl)
      rw [HN.out]
      unfold RefNewG
      rw [if_neg (by decide)]
      exact ⟨rfl, B9.out⟩
    | false =>
      obtain rfl : b = true := hde rfl
      have x0 := HK1.out.cell 0; have x1 := HK1.out.cell 1; have x2 := HK1.out.cell 2
      simp only [List.getElem?_toArray, List.getElem?_cons_zero, List.getElem?_cons_succ] at x0 x1 x2
      have f0 := HK1.out.frozen 0; have f1 := HK1.out.frozen 1; have f2 := HK1.out.frozen 2
      have K9 := Lib.hid (show Blk _ w.heap.size 33 #[.slice none 0 0, .slice none 0 0, .slice none 0 0] by simpa using (((HK1.out.set_ 0 (.slice none 0 0)).set_ 1 (.slice none 0 0)).set_ 2 (.slice none 0 0)))
      have B9 := Lib.hid (((HB1.out.setCell (p := ⟨w.heap.size, 0, none⟩) (Nat.le_refl _) (.slice none 0 0)).setCell (p := ⟨w.heap.size, 1, none⟩) (Nat.le_refl _) (.slice none 0 0)).setCell (p := ⟨w.heap.size, 2, none⟩) (Nat.le_refl _) (.slice none 0 0))
      go_wp2_with fail
      refine bodyPost_ret (v := .tuple #[.agg #[.slice none 0 0, .slice none 0 0, .slice none 0 0], .int .i64 12]) ?_ rfl ?_
      · exact results_cell_tmp_row (p := 4) (u := 5) (ty := 33) rfl _ _ _ _ _ _ _ (by rfl) K9.out Tryz.underlying33 rfl (by kernel_rfl)
      rw [HN.out]
      unfold RefNewG
      rw [if_neg (by decide)]
      exact ⟨rfl, B9.out⟩
  rw [if_neg h1] at HN
  have e1 : decide (n < 1) = false := by simp; omega
  have e2 : decide (65536 < n) = false := by simp; omega
  rw [e1] at hd1
  rw [e2] at hd2
  have hn2 : n ≤ 65536 := by omega
  have HRW := Lib.hid fun (W : World) (hb : Below w.heap.size w W) (r : List Vl) (B : Option Addr) (l c : Nat) (hr : Reads w w.heap.size 3 B l (vs r)) (hl : l ≤ 140737488355328) => refRow_any S B m cs l c sl r W ((HSR.out.below hb).more hb.size) ((hr.below hb).more hb.size) (by omega) (by omega)
  clear e1 e2
  go_wp2_with fail
  go_loopw [7, 8] (fun i _ wr => ∃ k : Nat, k ≤ n ∧ i = .int .i64 (k : Int) ∧ Below w.heap.size w wr ∧ Blk wr w.heap.size 33 #[.slice none 0 0, .slice none 0 0, .slice none 0 0] ∧ ∀ r ∈ rows.take k, rwE sl r = 0) (fun i _ _ => n - (intOf i).toNat)
  case atStart => exact ⟨0, Nat.zero_le _, rfl, HB1.out, HK1.out, by simp⟩
  case round =>
    clear HB1 HK1
    obtain ⟨k, hk, rfl, hb, hK, hok⟩ := hrel
    by_cases hlt : k < n
    · obtain ⟨r, hz⟩ : ∃ r, rows[k]? = some r := ⟨_, List.getElem?_eq_getElem (by rw [HE.out]; omega)⟩
      obtain ⟨u, hu1, A2, c2', rfl, hrr⟩ := HU.out k r hz
      obtain ⟨bb, oo, rfl, hbb, hcell⟩ := reads_plain2 hu (by omega) hu1
      have hck := (hb.cell (p := ⟨bb, oo + k, none⟩) hbb).trans (hcell k _ hu1)
      have hR := HRW.out wr hb r A2 r.length c2' hrr (HBG.out r (List.mem_of_getElem? hz))
      have HT := Lib.hid (List.take_add_one (l := rows) (i := k)); have HZ := Lib.hid hz
      obtain ⟨l, hl⟩ : ∃ l, r.length = l := ⟨_, rfl⟩
      rw [hl] at hck hR
      have HFI := Lib.hid fun h => rowsE_first (s := sl) hok hz h
      obtain ⟨E, hE⟩ : ∃ E, rwE sl r = E := ⟨_, rfl⟩
      rw [hE] at hR HFI
      have HR := Lib.hid hR; have HEE := Lib.hid hE; have HOK := Lib.hid hok; have HB := Lib.hid hb; have HK := Lib.hid hK
      clear hR hE hok hb hK hz hu1 hcell hrr hl hu
      go_wp2_with fail
      refine HR.out.mono ?_
      rintro e w4 ⟨rfl, hb4⟩
      have HB4 := Lib.hid (HB.out.trans (hb4.mono HB.out.size)); have HK4 := Lib.hid (HK.out.below hb4 HK.out.lt)
      clear hb4 HB HK HR
      by_cases h0 : E = 0
      · subst h0
        go_wp2_with fail
        go_round
        case rel =>
          refine ⟨k + 1, by omega, by go_num, HB4.out, HK4.out, fun q hq => ?_⟩
          rw [HT.out, HZ.out] at hq
          rcases List.mem_append.1 hq with hq | hq
          · exact HOK.out q hq
          · have : q = r := by simpa using hq
            rw [this]; exact HEE.out
        case measure => simp [intOf]; omega
      · have q1 : (E == 0) = false := by simpa using h0
        have HF := Lib.hid (HFI.out h0)
        have x0 := HK4.out.cell 0; have x1 := HK4.out.cell 1; have x2 := HK4.out.cell 2
        simp only [List.getElem?_toArray, List.getElem?_cons_zero, List.getElem?_cons_succ] at x0 x1 x2
        have f0 := HK4.out.frozen 0; have f1 := HK4.out.frozen 1; have f2 := HK4.out.frozen 2
        have K9 := Lib.hid (show Blk _ w.heap.size 33 #[.slice none 0 0, .slice none 0 0, .slice none 0 0] by simpa using (((HK4.out.set_ 0 (.slice none 0 0)).set_ 1 (.slice none 0 0)).set_ 2 (.slice none 0 0)))
        have B9 := Lib.hid (((HB4.out.setCell (p := ⟨w.heap.size, 0, none⟩) (Nat.le_refl _) (.slice none 0 0)).setCell (p := ⟨w.heap.size, 1, none⟩) (Nat.le_refl _) (.slice none 0 0)).setCell (p := ⟨w.heap.size, 2, none⟩) (Nat.le_refl _) (.slice none 0 0))
        go_wp2_with fail
        refine bodyPost_ret (v := .tuple #[.agg #[.slice none 0 0, .slice none 0 0, .slice none 0 0], .int .i64 E]) ?_ rfl ?_
        · exact results_cell_tmp_row (p := 4) (u := 5) (ty := 33) rfl _ _ _ _ _ _ _ (by rfl) K9.out Tryz.underlying33 rfl (by kernel_rfl)
        rw [HN.out, HF.out]
        unfold RefNewG
        rw [if_neg (h0)]
        exact ⟨rfl, B9.out⟩
    · obtain rfl : k = n := by omega
      rw [List.take_of_length_le (by rw [HE.out]; exact Nat.le_refl _)] at hok
      have HF := Lib.hid (rowsE_zero hok)
      have hmk := run_make_bools k (by omega) wr
      have kq := Blk.new wr 4 (bl (fun _ => false) k).toArray
      have b2 := hb.alloc hb.size (.cells (bl (fun _ => false) k).toArray 4)
      have k2 := hK.alloc (.cells (bl (fun _ => false) k).toArray 4)
      have hszq := hb.size
      obtain ⟨W9, hW9⟩ : ∃ q, wr.alloc (.cells (bl (fun _ => false) k).toArray 4) = q := ⟨_, rfl⟩
      rw [hW9] at hmk kq b2 k2
      have hlq := hK.lt
      have kq3 := ((kq.far (p := ⟨w.heap.size, 0, none⟩) (show wr.heap.size ≠ w.heap.size by omega) (.slice S m cs)).far (p := ⟨w.heap.size, 1, none⟩) (show wr.heap.size ≠ w.heap.size by omega) (.slice A k c)).far (p := ⟨w.heap.size, 2, none⟩) (show wr.heap.size ≠ w.heap.size by omega) (.slice (some ⟨wr.heap.size, 0, none⟩) k k)
      have x0 := k2.cell 0; have x1 := k2.cell 1; have x2 := k2.cell 2
      simp only [List.getElem?_toArray, List.getElem?_cons_zero, List.getElem?_cons_succ] at x0 x1 x2
      have f0 := k2.frozen 0; have f1 := k2.frozen 1; have f2 := k2.frozen 2
      have K9 := Lib.hid (show Blk _ w.heap.size 33 #[.slice S m cs, .slice A k c, .slice (some ⟨wr.heap.size, 0, none⟩) k k] by simpa using (((k2.set_ 0 (.slice S m cs)).set_ 1 (.slice A k c)).set_ 2 (.slice (some ⟨wr.heap.size, 0, none⟩) k k)))
      have B9 := Lib.hid (((b2.setCell (p := ⟨w.heap.size, 0, none⟩) (Nat.le_refl _) (.slice S m cs)).setCell (p := ⟨w.heap.size, 1, none⟩) (Nat.le_refl _) (.slice A k c)).setCell (p := ⟨w.heap.size, 2, none⟩) (Nat.le_refl _) (.slice (some ⟨wr.heap.size, 0, none⟩) k k))
      have KQ := Lib.hid kq3
      clear hok hb hK hu kq b2 k2 kq3 hW9
      go_wp2_with fail
      refine bodyPost_ret (v := .tuple #[.agg #[.slice S m cs, .slice A k c, .slice (some ⟨wr.heap.size, 0, none⟩) k k], .int .i64 0]) ?_ rfl ?_
      · exact results_cell_tmp_row (p := 4) (u := 5) (ty := 33) rfl _ _ _ _ _ _ _ (by rfl) K9.out Tryz.underlying33 rfl (by kernel_rfl)
      rw [HN.out, HF.out]
      unfold RefNewG
      rw [if_pos rfl]
      exact ⟨_, rfl, KQ.out, hszq, B9.out⟩
end
end Go.Proofs.YtpgdlmnhomnblaaGreatDoor
namespace Go.Proofs.YtpgdlmnhomnblaaGreatDoor
open Go.RowKit
set_option linter.unusedVariables false
set_option linter.unusedSimpArgs false
set_option maxRecDepth 100000
theorem colV_snoc {rows : List (List Vl)} {k c : Nat} {r : List Vl} {v : Vl} (h : rows[k]? = some r) (hv : r[c]? = some v) : colV (rows.take (k + 1)) c = colV (rows.take k) c ++ [v] := by
  rw [List.take_add_one, h]
  simp [colV, List.getD_eq_getElem?_getD, hv]
set_option maxHeartbeats 1000000 in
theorem column_any {w : World} {A : Option Addr} {n cp ci : Nat} {rows : List (List Vl)} (hn : rows.length = n) (hr : VV w A rows) (hn2 : n ≤ 65536) (hci : ci ≤ 65536) (hl : ∀ r ∈ rows, ci < r.length ∧ r.length ≤ 65536) :
    Calls Tryz.prog 59 #[.slice A n cp, .int .i64 (ci : Int)] w fun e w' => ∃ v, e = .returned v ∧ w'.ownsRow w.heap.size 51 3 v n (vs (colV rows ci)) ∧ Below w.heap.size w w' := by
  obtain ⟨i0, hi0, hz0, hz1, hz2⟩ := info_parts info_val
  obtain ⟨us, hu, hus⟩ := hr
  rw [hn] at hu
  have HE := Lib.hid hn; have HU := Lib.hid hus; have HL := Lib.hid hl
  clear hn hus hl
  go_enter Tryz.func59, Tryz.ntmps59
  go_wp2_with fail
  go_loopw [5, 6] (fun v i wr => ∃ k : Nat, k ≤ n ∧ i = .int .i64 (k : Int) ∧ wr.ownsRow w.heap.size 51 3 v k (vs (colV (rows.take k) ci)) ∧ Below w.heap.size w wr) (fun _ i _ => n - (intOf i).toNat)
  case atStart => exact ⟨0, Nat.zero_le _, rfl, by simpa [colV, vs] using own_nil _ _ _ _, Below.refl _ _⟩
  case round =>
    obtain ⟨k, hk, rfl, hown, hb⟩ := hrel
    by_cases hlt : k < n
    · obtain ⟨r, hz⟩ : ∃ r, rows[k]? = some r := ⟨_, List.getElem?_eq_getElem (by rw [HE.out]; omega)⟩
      obtain ⟨u, hu1, A2, c2, rfl, hrr⟩ := HU.out k r hz
      obtain ⟨bb, oo, rfl, hbb, hcell⟩ := reads_plain2 hu (by omega) hu1
      have hck := (hb.cell (p := ⟨bb, oo + k, none⟩) hbb).trans (hcell k _ hu1)
      obtain ⟨hm1, hm2⟩ := HL.out r (List.mem_of_getElem? hz)
      obtain ⟨⟨v0, v1, z⟩, hv⟩ : ∃ v, r[ci]? = some v := ⟨_, List.getElem?_eq_getElem hm1⟩
      obtain ⟨b', o', rfl, hb0', x0, x1, x2⟩ := (hrr.below hb).val hv
      have HS := Lib.hid (colV_snoc hz hv)
      obtain ⟨m, hmm⟩ : ∃ m, r.length = m := ⟨_, rfl⟩
      rw [hmm] at hm1 hm2 hck
      have hsz := hb.size
      clear hz hu1 hcell hmm hv hrr hu
      obtain ⟨L, hL⟩ : ∃ L, colV (rows.take k) ci = L := ⟨_, rfl⟩
      rw [hL] at hown HS
      clear hL
      go_wp2_with (at_builtin
                   refine wpList_append_any _ rfl (.tmp 13) (.tmp 21) _ rfl w.heap.size 51 i0 _ 3 32 Tryz.underlying49 hi0 hz0 hz1 hz2 rfl (by omega) u5 k (vs L) rfl
                     (hown.alloc _) (wr.heap.size + 1) (some ⟨wr.heap.size, 0, none⟩) 1 1 (vc (v0, v1, z)) rfl (reads3 wr _ _ _ _) (vc_cell _) (by unfold maxLen; omega) (by omega) (by simp; omega) ?_
                   intro v3 w3 hown3 hg3 hat3)
      go_round
      case rel =>
        refine ⟨k + 1, by omega, by go_num, ?_, below_app hb hown hsz hg3⟩
        rw [HS.out, vs_append, vs_one]
        exact hown3
      case measure => simp [intOf]; omega
    · obtain rfl : k = n := by omega
      have HB := Lib.hid hb
      rw [List.take_of_length_le (by rw [HE.out]; exact Nat.le_refl _)] at hown
      have HO := Lib.hid hown
      clear hown hb hu
      go_wp2_with fail
      go_ret
      exact ⟨_, rfl, HO.out, HB.out⟩
end Go.Proofs.YtpgdlmnhomnblaaGreatDoor
namespace Go.Proofs.YtpgdlmnhomnblaaGreatDoor
open Go.RowKit
set_option linter.unusedVariables false
set_option linter.unusedSimpArgs false
def Apt (va vb : Value) : Prop := vb.ownBlock = none ∨ vb.ownBlock ≠ va.ownBlock
theorem Apt.symm {va vb : Value} (h : Apt va vb) : Apt vb va := by
  cases ha : va.ownBlock with
  | none => exact .inl ha
  | some q =>
    refine .inr fun e => ?_
    rcases h with h | h
    · rw [h, ha] at e; cases e
    · exact h e.symm
theorem Apt.grown {w : World} {B : Nat} {t : TypeId} {va vb va' : Value} {m : Nat} {ys : List Value} {o : Obj} (h : Apt va vb) (hb : w.ownsRow B t 1 vb m ys) (hat : va'.ownBlock = va.ownBlock ∨ va'.ownBlock = some (w.alloc o).heap.size) : Apt va' vb := by
  rcases hat with hat | hat
  · unfold Apt; rw [hat]; exact h
  · cases hv : vb.ownBlock with
    | none => exact .inl hv
    | some q =>
      refine .inr fun e => ?_
      rw [hat, hv] at e
      injection e with e
      have := (hb.lt q hv).2
      simp at e
      omega
structure Thr (w : World) (B : Nat) (ta tb tc : TypeId) (va vb vc : Value) (n m k : Nat) (xs ys zs : List Value) : Prop where
  a : w.ownsRow B ta 1 va n xs
  b : w.ownsRow B tb 1 vb m ys
  c : w.ownsRow B tc 1 vc k zs
  ab : Apt va vb
  ac : Apt va vc
  bc : Apt vb vc
theorem Thr.nil (w : World) (B : Nat) (ta tb tc : TypeId) : Thr w B ta tb tc (.slice none 0 0) (.slice none 0 0) (.slice none 0 0) 0 0 0 [] [] [] :=
  ⟨own_nil _ _ _ _, own_nil _ _ _ _, own_nil _ _ _ _, .inl rfl, .inl rfl, .inl rfl⟩
theorem Thr.rot {w : World} {B : Nat} {ta tb tc : TypeId} {va vb vc : Value} {n m k : Nat} {xs ys zs : List Value} (h : Thr w B ta tb tc va vb vc n m k xs ys zs) : Thr w B tb tc ta vb vc va m k n ys zs xs :=
  ⟨h.b, h.c, h.a, h.bc, h.ab.symm, h.ac.symm⟩
theorem Thr.grown {w w' : World} {B : Nat} {ta tb tc : TypeId} {va vb vc va' : Value} {n m k n' : Nat} {xs ys zs xs' : List Value} {o : Obj} (h : Thr w B ta tb tc va vb vc n m k xs ys zs)
    (hown : w'.ownsRow B ta 1 va' n' xs') (hg : (w.alloc o).grownBy w' va.ownBlock) (hat : va'.ownBlock = va.ownBlock ∨ va'.ownBlock = some (w.alloc o).heap.size) : Thr w' B ta tb tc va' vb vc n' m k xs' ys zs :=
  ⟨hown, (h.b.alloc o).kept hg h.ab, (h.c.alloc o).kept hg h.ac, h.ab.grown h.b hat, h.ac.grown h.c hat, h.bc⟩
end Go.Proofs.YtpgdlmnhomnblaaGreatDoor
namespace Go.Proofs.YtpgdlmnhomnblaaGreatDoor
open Go.RowKit
set_option linter.unusedVariables false
set_option linter.unusedSimpArgs false
set_option maxRecDepth 100000
theorem own_new (w : World) (cs : Array Value) (n : Nat) (t : TypeId) (xs : List Value) (hm : n ≤ maxLen) (hs : cs.size = n) (hx : cs.toList = xs) :
    (w.alloc (.cells cs t)).ownsRow w.heap.size t 1 (.slice (some ⟨w.heap.size, 0, none⟩) n n) n xs := by
  subst hx
  exact ⟨by simp [hs], .inr ⟨w.heap.size, n, cs, rfl, Nat.le_refl _, heap_alloc_new w _, Nat.le_refl _, hm, by omega, by rw [Nat.mul_one, ← hs, ← Array.length_toList, List.take_length]⟩⟩
end Go.Proofs.YtpgdlmnhomnblaaGreatDoor
namespace Go.Proofs.YtpgdlmnhomnblaaGreatDoor
open Go.RowKit
set_option linter.unusedVariables false
set_option linter.unusedSimpArgs false
set_option maxRecDepth 100000
set_option maxHeartbeats 400000 in
theorem refVar_any (v : Nat) : ∀ (w : World), v < 18446744073709551616 → Calls Tryz.prog 190 #[.int .u64 (v : Int)] w (New w (bs (vb v)) (vb v).length) := by
  induction v using Nat.strongRecOn with
  | ind v ih =>
    intro w hv
    obtain ⟨i0, hi0, hz0, hz1, hz2⟩ := info_parts info_u8
    by_cases h : v < 128
    · clear ih
      have HV := Lib.hid (vb_small v h)
      go_enter Tryz.func190, Tryz.ntmps190
      go_wp2_with fail
      go_ret
      rw [HV.out]
      exact ⟨_, rfl, own_new w _ 1 _ _ (by unfold maxLen; omega) rfl (by simp [bs]), (Below.refl _ _).alloc (Nat.le_refl _) _⟩
    · have H := Lib.hid (ih (v / 128) (by omega)); clear ih
      have HV := Lib.hid (vb_big v h hv)
      have hl := vb_length (v / 128)
      have hown0 := own_new w #[.int .u8 (128 + (v : Int) % 128)] 1 5 (bs [128 + v % 128]) (by unfold maxLen; omega) rfl (by simp [bs])
      have Hown0 := Lib.hid hown0
      clear hown0
      go_enter Tryz.func190, Tryz.ntmps190
      go_wp2_with (first
        | (go_at_call 190; refine (H.out _ (by omega)).mono ?_; rintro e w1 ⟨v1, rfl, hown1, hb1⟩; obtain ⟨A1, c1, rfl, hc1, hc1', hr1⟩ := own_slice hown1)
        | (at_builtin
           refine wpList_append_any _ rfl (.tmp 12) (.tmp 15) _ rfl w.heap.size 5 i0 _ 1 1 Tryz.underlying66 hi0 hz0 hz1 hz2 rfl (by omega) (.slice (some ⟨w.heap.size, 0, none⟩) 1 1) 1 (bs [128 + v % 128]) rfl
             (own_below Hown0.out hb1) w1.heap.size A1 (vb (v / 128)).length c1 (bs (vb (v / 128))) rfl hr1 (bs_one _) (by unfold maxLen; omega) (by omega) (by have := hb1.size; simp at this; omega) ?_
           intro v2 w2 hown2 hg2 hat2))
      go_ret
      rw [HV.out]
      refine ⟨v2, rfl, ?_, ?_⟩
      · simpa [bs, Nat.add_comm] using hown2
      · exact (((Below.refl _ _).alloc (Nat.le_refl _) _).trans (hb1.mono (by simp))).grown hg2 (by have := hb1.size; simp at this; omega) (fun k hk => by simp [Value.ownBlock] at hk; omega)
end Go.Proofs.YtpgdlmnhomnblaaGreatDoor
namespace Go.Proofs.YtpgdlmnhomnblaaGreatDoor
open Go.RowKit
set_option linter.unusedVariables false
set_option linter.unusedSimpArgs false
set_option maxRecDepth 100000
theorem refZig_any (n : Int) (w : World) (h1 : -9223372036854775808 ≤ n) (h2 : n ≤ 9223372036854775807) : Calls Tryz.prog 191 #[.int .i64 n] w fun e w' => e = .returned (.int .u64 (zigI n)) ∧ w = w' := by
  by_cases h : 0 ≤ n
  · have HZ := Lib.hid (show 2 * n = zigI n by unfold zigI; rw [if_pos h])
    go_enter Tryz.func191, Tryz.ntmps191
    go_wp2_with fail
    go_ret
    exact ⟨ret_of (congrArg (Value.int .u64) HZ.out), rfl⟩
  · go_enter Tryz.func191, Tryz.ntmps191
    go_wp2_with fail
    go_ret
    refine ⟨ret_of (congrArg (Value.int .u64) ?_), rfl⟩
    unfold zigI
    rw [if_neg (by omega)]
    omega
end Go.Proofs.YtpgdlmnhomnblaaGreatDoor
namespace Go.Proofs.YtpgdlmnhomnblaaGreatDoor
open Go.RowKit
set_option linter.unusedVariables false
set_option linter.unusedSimpArgs false
set_option maxRecDepth 100000
theorem refZigN_any (z : Int) (w : World) (h : In64 z) : Calls Tryz.prog 191 #[.int .i64 z] w fun e w' => e = .returned (.int .u64 (zg z : Int)) ∧ w = w' := by
  rw [← (zg_int h).1]; exact refZig_any z w h.1 h.2
end Go.Proofs.YtpgdlmnhomnblaaGreatDoor
namespace Go.Proofs.YtpgdlmnhomnblaaGreatDoor
open Go.RowKit
set_option linter.unusedVariables false
set_option linter.unusedSimpArgs false
set_option maxRecDepth 100000
set_option maxHeartbeats 1000000 in
theorem refPlPut_any (A : Option Addr) (n c : Nat) (l : List Int) (w : World) (hr : Reads w w.heap.size 1 A n (zs l)) (hl : ∀ z ∈ l, In64 z) (hn : n ≤ 65536) :
    Calls Tryz.prog 154 #[.slice A n c] w (New w (bs (pl l)) (pl l).length) := by
  obtain ⟨i0, hi0, hz0, hz1, hz2⟩ := info_parts info_u8
  have e1 : l.length = n := by have := hr.1; rw [zs_length] at this; omega
  have E1 := Lib.hid e1; have HLL := Lib.hid hl
  clear e1 hl
  go_enter Tryz.func154, Tryz.ntmps154
  go_wp2_with fail
  go_loopw [3, 4] (fun out i wr => ∃ k : Nat, k ≤ n ∧ i = .int .i64 (k : Int) ∧ wr.ownsRow w.heap.size 5 1 out (pl (l.take k)).length (bs (pl (l.take k))) ∧ Below w.heap.size w wr) (fun _ i _ => n - (intOf i).toNat)
  case atStart => exact ⟨0, by omega, rfl, own_nil _ _ _ _, Below.refl _ _⟩
  case round =>
    obtain ⟨k, hk, rfl, hown, hb⟩ := hrel
    by_cases hlt : k < n
    · obtain ⟨ad, u, rfl, _, hu, hc⟩ := (hr.below hb).at_ hlt
      obtain ⟨z, hz, rfl⟩ := zs_at hu
      have hz64 := HLL.out z (List.mem_of_getElem? hz)
      have hzg := (zg_int hz64).2
      have hvl := vb_length (zg z)
      have hpk := pl_length (l.take k)
      have htk : (l.take k).length ≤ k := List.length_take_le _ _
      have HS := Lib.hid (pl_step hz)
      clear hu hz
      go_wp2_with fail
      refine (refZigN_any z wr hz64).mono ?_
      rintro e w' ⟨rfl, rfl⟩
      go_wp2_with fail
      refine (refVar_any (zg z) wr hzg).mono ?_
      intro e2 w2 hN2
      obtain ⟨A2, c2, rfl, _, hr2, hb2⟩ := hN2.opened
      clear hN2
      have hown2 := own_below hown hb2
      have hb02 := hb.trans (hb2.mono hb.size)
      go_wp2_with (at_builtin
                   refine wpList_append_any _ rfl (.tmp 11) (.tmp 17) _ rfl w.heap.size 5 i0 _ 1 1 Tryz.underlying66 hi0 hz0 hz1 hz2 rfl (by omega) u3 (pl (l.take k)).length (bs (pl (l.take k))) rfl
                     hown2 w2.heap.size A2 (vb (zg z)).length c2 (bs (vb (zg z))) rfl hr2 (bs_one _) (by unfold maxLen; omega) (by omega) hb02.size ?_
                   intro v3 w3 hown3 hg3 hat3)
      go_round
      case rel =>
        refine ⟨k + 1, by omega, by go_num, ?_, hb02.grown hg3 hb02.size (fun j hj => (hown2.lt j hj).1)⟩
        rw [HS.out, List.length_append, bs_append]
        exact hown3
      case measure => simp [intOf]; omega
    · go_wp2_with fail
      go_ret
      obtain rfl : k = n := by omega
      rw [List.take_of_length_le (by rw [E1.out]; omega)] at hown
      exact ⟨_, rfl, hown, hb⟩
end Go.Proofs.YtpgdlmnhomnblaaGreatDoor
