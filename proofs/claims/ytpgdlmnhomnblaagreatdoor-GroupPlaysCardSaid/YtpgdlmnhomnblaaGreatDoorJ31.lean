import Derived.BigQuiet
import Derived.Deep.QuietTactic
import Derived.Deep.RegionWith
import Derived.Deep.DeepCutAuto
import Derived.Deep.CutBlock
import Derived.Lib.QuietBelow
import Derived.Test.YtpgdlmnhomnblaaGreatDoorJ6
import Derived.Test.YtpgdlmnhomnblaaGreatDoorJ24
import Derived.Test.YtpgdlmnhomnblaaGreatDoorJ8
import Derived.Test.YtpgdlmnhomnblaaGreatDoorJ9
import Derived.Deep.RegionLaw
import Derived.Test.YtpgdlmnhomnblaaGreatDoorJ2
import Derived.Test.YtpgdlmnhomnblaaGreatDoorJ23
import Derived.Test.YtpgdlmnhomnblaaGreatDoorJ29
import Derived.Laws.StructEq
namespace Go.Proofs.YtpgdlmnhomnblaaGreatDoor
open Go.RowKit
set_option linter.unusedVariables false
set_option linter.unusedSimpArgs false
set_option maxRecDepth 100000
section
variable {w : World} {P : Nat → Prop} {g d h B n : Nat} {rows : List (List Vl)} {hs : List (Zn × List Nat)} {ks : List (List Nat)} {l : List Nat}
theorem GrI.cells (H : GrI w P g d rows hs ks) : ∃ R cR C cC K cK, w.cell? ⟨g, 0, none⟩ = some (.slice R rows.length cR) ∧ w.cell? ⟨g, 1, none⟩ = some (.pointer (some ⟨d, 0, none⟩)) ∧ w.cell? ⟨g, 2, none⟩ = some (.slice C hs.length cC) ∧ w.cell? ⟨g, 3, none⟩ = some (.slice K ks.length cK) ∧ OffG w P 40 C hs.length (hcs hs) := by
  obtain ⟨R, cR, C, cC, K, cK, us, vv, h0, _, _, _, h4, _, _⟩ := H
  exact ⟨R, cR, C, cC, K, cK, h0.cell 0, h0.cell 1, h0.cell 2, h0.cell 3, h4⟩
theorem Len_G (H : GrI w P g d rows hs ks) : Calls Tryz.prog 8 #[.pointer (some ⟨g, 0, none⟩)] w fun e w' => e = .returned (.int .i64 (rows.length : Int)) ∧ w = w' := by
  obtain ⟨R, cR, C, cC, K, cK, x0, x1, x2, x3, _⟩ := H.cells
  clear H
  go_enter Tryz.func8, Tryz.ntmps8
  go_wp2_with fail
  go_ret
  exact ⟨rfl, rfl⟩
theorem Kill_G (H : GrI w P g d rows hs ks) (s : SetIn w B d h n l) (i : Int) : Calls Tryz.prog 11 #[.pointer (some ⟨g, 0, none⟩), .int .i64 i] w (MarkD w B d h n l i) := by
  obtain ⟨R, cR, C, cC, K, cK, x0, x1, x2, x3, _⟩ := H.cells
  have HM := Lib.hid (Mark_any s i)
  clear H s
  go_enter Tryz.func11, Tryz.ntmps11
  go_wp2_with fail
  refine HM.out.mono ?_
  rintro e w1 ⟨rfl, h1, h2⟩
  go_wp2_with fail
  go_ret
  exact ⟨rfl, h1, h2⟩
theorem Dead_G (H : GrI w P g d rows hs ks) (s : SetIn w B d h n l) : Calls Tryz.prog 26 #[.pointer (some ⟨g, 0, none⟩)] w (NewB w l) := by
  obtain ⟨R, cR, C, cC, K, cK, x0, x1, x2, x3, _⟩ := H.cells
  have HM := Lib.hid (Bytes_any s)
  clear H s
  go_enter Tryz.func26, Tryz.ntmps26
  go_wp2_with fail
  refine HM.out.mono ?_
  rintro e w1 ⟨q, rfl, h1, h2, h3⟩
  go_wp2_with fail
  go_ret
  exact ⟨q, rfl, h1, h2, h3⟩
theorem Live_G (H : GrI w P g d rows hs ks) (s : SetIn w B d h rows.length l) : Calls Tryz.prog 14 #[.pointer (some ⟨g, 0, none⟩)] w fun e w' => e = .returned (.int .i64 ((rows.length : Int) - (cnt (bit l) rows.length : Int))) ∧ Below w.heap.size w w' := by
  obtain ⟨R, cR, C, cC, K, cK, x0, x1, x2, x3, _⟩ := H.cells
  have HL := Lib.hid fun (W : World) (hb : Below w.heap.size w W) => Len_G (H.step (P' := P) (Stp.of_below hb))
  have HC := Lib.hid fun (W : World) (hb : Below w.heap.size w W) => Count_any (s.below hb (Nat.le_refl _))
  have hle := s.le
  have hcl : (cnt (bit l) rows.length) ≤ rows.length := cnt_le _ _
  obtain ⟨k, hk⟩ : ∃ k, cnt (bit l) rows.length = k := ⟨_, rfl⟩
  rw [hk] at HC hcl ⊢
  obtain ⟨n, hn⟩ : ∃ n, rows.length = n := ⟨_, rfl⟩
  rw [hn] at HL hcl hle x0 ⊢
  clear H s hk hn
  go_enter Tryz.func14, Tryz.ntmps14
  have g1 : Hid (Yields w.heap.size w 8 #[.pointer (some ⟨g, 0, none⟩)] (.int .i64 (n : Int))) := Lib.hid fun V hb => (HL.out V hb).mono fun e w' ⟨he, hw⟩ => ⟨he, hw ▸ hb⟩
  have g2 : Hid (Yields w.heap.size w 38 #[.pointer (some ⟨d, 0, none⟩)] (.int .i64 (k : Int))) := Lib.hid fun V hb => (HC.out V hb).mono fun e w' ⟨he, hw⟩ => ⟨he, hw ▸ hb⟩
  have y1 := cell_regrown x1
  have hsub : IntKind.i64.wrap ((n : Int) - (k : Int)) = (n : Int) - (k : Int) := IntWalk.i64_in _ (by omega)
  clear HL HC
  go_upto_region 3 with fail
  refine wp_region_quiet_below (by kernel_rfl) (by kernel_rfl) ?_
  repeat (go_big_quiet_step (first | (go_at_call 8; with_reducible exact g1.out.quiet _ _) | (go_at_call 38; with_reducible exact g2.out.quiet _ _)))
  refine wpQuiet_nil ?_
  intro V hV
  have hbp : Below w.heap.size w V := by obtain ⟨pp, e⟩ := hV; subst e; exact below_regrown w pp.d pp.os
  clear hV g1 g2 y1 x0 x1 x2 x3
  go_wp2_with fail
  go_ret
  exact ⟨rfl, hbp⟩
end
end Go.Proofs.YtpgdlmnhomnblaaGreatDoor
namespace Go.Proofs.YtpgdlmnhomnblaaGreatDoor
open Go.RowKit
set_option linter.unusedVariables false
set_option linter.unusedSimpArgs false
set_option maxRecDepth 100000
theorem info_headG' : (Tryz.prog.info? 57).map (fun i => (i.zero, i.size, i.bytes)) = some (some (.agg (#[.int .i64 0, .bool false, .int .i64 0, .int .i64 0, .string ⟨#[]⟩, .int .i64 0, .int .i64 0, .string ⟨#[]⟩] ++ Array.replicate 32 (.int .u8 0))), 40, 112) := by kernel_rfl
theorem own_wholeS {w : World} {B h n s : Nat} {t : TypeId} {xs : List Value} (hb : Blk w h t xs.toArray) (hB : B ≤ h) (hn : xs.length = n * s) (hm : n ≤ maxLen) : w.ownsRow B t s (.slice (some ⟨h, 0, none⟩) n n) n xs :=
  ⟨hn, .inr ⟨h, n, xs.toArray, rfl, hB, hb, Nat.le_refl _, hm, by simp; omega, by simp; rw [List.take_of_length_le (by omega)]⟩⟩
theorem hcs_cells (l : List (Zn × List Nat)) : ∀ u ∈ hcs l, u.oneCell' = true := by
  intro u hu
  obtain ⟨x, _, hu⟩ := List.mem_flatMap.1 hu
  rcases List.mem_append.1 hu with hu | hu
  · simp [zc, vc] at hu
    rcases hu with rfl | rfl | rfl | rfl | rfl | rfl | rfl | rfl <;> rfl
  · exact bs_one _ u hu
def hdA (n live : Int) (D : List Value) (v : Value) : Value := Value.agg ([Value.int .i64 n, Value.int .i64 live] ++ D ++ [v]).toArray
theorem hcs_at : ∀ {l : List (Zn × List Nat)} {k j : Nat} {x : Zn × List Nat}, (∀ y ∈ l, y.2.length = 32) → l[k]? = some x → j < 40 → (hcs l)[k * 40 + j]? = (zc x.1 ++ bs x.2)[j]?
  | [], _, _, _, _, h, _ => by simp at h
  | y :: l, 0, j, x, ha, h, hj => by
    simp at h
    subst h
    have h32 := ha y (by simp)
    rw [hcs, List.flatMap_cons, Nat.zero_mul, Nat.zero_add, List.getElem?_append_left (by rw [List.length_append, bs_length, h32]; exact hj)]
  | y :: l, k + 1, j, x, ha, h, hj => by
    simp at h
    have h32 := ha y (by simp)
    have hl : (zc y.1 ++ bs y.2).length = 40 := by rw [List.length_append, bs_length, h32]; rfl
    rw [hcs, List.flatMap_cons, List.getElem?_append_right (by rw [hl]; omega), hl, show (k + 1) * 40 + j - 40 = k * 40 + j by omega]
    exact hcs_at (fun z hz => ha z (by simp [hz])) h hj
theorem Reads.headc {w : World} {B n : Nat} {A : Option Addr} {l : List (Zn × List Nat)} (h : Reads w B 40 A n (hcs l)) (ha : ∀ y ∈ l, y.2.length = 32) {k : Nat} {x : Zn × List Nat} (hk : k < n) (hx : l[k]? = some x) :
    ∃ b o, A = some ⟨b, o, none⟩ ∧ b < B ∧ ∀ j v, (zc x.1 ++ bs x.2)[j]? = some v → w.cell? ⟨b, o + k * 40 + j, none⟩ = some v := by
  obtain ⟨⟨b, o, sp⟩, rfl, hb, hc⟩ := h.2 (by omega)
  have hl := h.1
  have h32 := ha x (List.mem_of_getElem? hx)
  obtain rfl : sp = none := by simpa [Addr.add] using World.cell?_spot (hc 0 _ (List.getElem?_eq_getElem (by omega)))
  refine ⟨b, o, rfl, hb, fun j v hv => ?_⟩
  have hj : j < 40 := by
    have := (List.getElem?_eq_some_iff.1 hv).1
    rw [List.length_append, bs_length, h32] at this
    exact this
  have := hc (k * 40 + j) v ((hcs_at ha hx hj).trans hv)
  rw [plain_add] at this
  rw [Nat.add_assoc]; exact this
end Go.Proofs.YtpgdlmnhomnblaaGreatDoor
namespace Go.Proofs.YtpgdlmnhomnblaaGreatDoor
open Go.RowKit
set_option linter.unusedVariables false
set_option linter.unusedSimpArgs false
set_option maxRecDepth 100000
section
variable {w : World} {P : Nat → Prop} {g d h B n c : Nat} {A : Option Addr} {rows : List (List Vl)} {hs : List (Zn × List Nat)} {ks : List (List Nat)} {l : List Nat}
theorem copied_H (hr : Reads w w.heap.size 40 A n (hcs hs)) (hn : n ≤ 65536) :
    Calls Tryz.prog 27 #[.slice A n c] w fun e w' => ∃ v, e = .returned v ∧ w'.ownsRow w.heap.size 57 40 v n (hcs hs) ∧ Below w.heap.size w w' := by
  obtain ⟨i, hi, hz0, hz1, hz2⟩ := info_parts info_headG'
  have hmk := fun W : World => run_make (P := Tryz.prog) W 40 57 i _ Tryz.underlying40 hi hz0 .i64 .i64 n n (by omega) (by omega) (by rw [hz2]; omega) (by omega)
  rw [hz1] at hmk
  simp only [Int.toNat_natCast] at hmk
  obtain ⟨Z, hZ⟩ : ∃ Z, madeCells (Value.cells (.agg (#[.int .i64 0, .bool false, .int .i64 0, .int .i64 0, .string ⟨#[]⟩, .int .i64 0, .int .i64 0, .string ⟨#[]⟩] ++ Array.replicate 32 (.int .u8 0)))) (n * 40) = Z := ⟨_, rfl⟩
  have hsz : Z.size = n * 40 := by rw [← hZ]; simp [size_madeCells]
  rw [hZ] at hmk
  have hhl : (hcs hs).length = n * 40 := hr.1
  have K0 := Blk.new w 57 Z
  have hr1 := (hr.alloc (Nat.le_refl _) (.cells Z 57))
  have B0 := (Below.refl w.heap.size w).alloc (Nat.le_refl _) (.cells Z 57)
  have hsv : (Tryz.prog.info? 57).map (·.size) = some 40 := by kernel_rfl
  have HK0 := Lib.hid K0; have HR1 := Lib.hid hr1; have HSZ := Lib.hid hsz; have HB0 := Lib.hid B0; have HL := Lib.hid hhl
  clear hr K0 hr1 hsz B0 hZ hhl
  go_enter Tryz.func27, Tryz.ntmps27
  go_wp2_with (with_reducible refine wpList_copy_wholeS rfl (.tmp 7) (.tmp 8) _ _ rfl 57 Tryz.underlying40 40 hsv w.heap.size n n c w.heap.size A 57 Z (hcs hs) rfl rfl HK0.out HSZ.out HR1.out (hcs_cells hs) ?_; intro w2 HG2 hg2)
  go_ret
  exact ⟨_, rfl, own_wholeS HG2.out (Nat.le_refl _) HL.out (by unfold maxLen; omega), HB0.out.grown hg2 (by simp) (fun k hk => by injection hk with hk; omega)⟩
set_option maxHeartbeats 4000000 in
theorem Header_G (H : GrI w P g d rows hs ks) (s : SetIn w B d h rows.length l) (ht : ShTab w) (hh : hs.length ≤ 65536) :
    Calls Tryz.prog 10 #[.pointer (some ⟨g, 0, none⟩)] w fun e w' => ∃ v, e = .returned (hdA (rows.length : Int) ((rows.length : Int) - (cnt (bit l) rows.length : Int)) (bs (shaN l)) v) ∧ w'.ownsRow w.heap.size 57 40 v hs.length (hcs hs) ∧ Below w.heap.size w w' := by
  have HL := Lib.hid fun (W : World) (hb : Below w.heap.size w W) => Len_G (H.step (P' := P) (Stp.of_below hb))
  have HV := Lib.hid fun (W : World) (hb : Below w.heap.size w W) => Live_G (H.step (P' := P) (Stp.of_below hb)) (s.below hb (Nat.le_refl _))
  have HD := Lib.hid fun (W : World) (hb : Below w.heap.size w W) => Dead_G (H.step (P' := P) (Stp.of_below hb)) (s.below hb (Nat.le_refl _))
  have HS := Lib.hid fun (W : World) (hb : Below w.heap.size w W) (A : Option Addr) (c : Nat) (hr : Reads W W.heap.size 1 A l.length (bs l)) (hc : l.length ≤ c) => sumS_any A l.length c l W hr s.ok.byte hc (by have := s.size.2; omega) (ht.next hb)
  have hcn := cnt_le (bit l) rows.length
  obtain ⟨R, cR, C, cC, K, cK, x0, x1, x2, x3, hC⟩ := H.cells
  have HX := Lib.hid fun (W : World) (hb : Below w.heap.size w W) => (⟨(hb.cell (World.block_lt_of_cell? _ _ x2)).trans x2, (hC.step (P' := P) (Stp.of_below hb)).1⟩ : W.cell? ⟨g, 2, none⟩ = some (.slice C hs.length cC) ∧ Reads W W.heap.size 40 C hs.length (hcs hs))
  have hle := s.le
  have hlz := s.size.2
  have hD32 : (bs (shaN l)).length = 32 := by rw [bs_length, shaN_length]
  have hDc : ∀ u ∈ bs (shaN l), u.oneCell' = true := bs_one _
  obtain ⟨D, hD⟩ : ∃ D, bs (shaN l) = D := ⟨_, rfl⟩
  have HS' : Hid (∀ (W : World), Below w.heap.size w W → ∀ (A : Option Addr) (c : Nat), Reads W W.heap.size 1 A l.length (bs l) → l.length ≤ c → Calls Tryz.prog 22 #[.slice A l.length c] W fun e w' => e = .returned (.agg (bs (shaN l)).toArray) ∧ Below W.heap.size W w') := HS
  rw [hD] at HS' hD32 hDc ⊢
  obtain ⟨k, hk⟩ : ∃ k, cnt (bit l) rows.length = k := ⟨_, rfl⟩
  rw [hk] at HV hcn ⊢
  obtain ⟨n, hn⟩ : ∃ n, rows.length = n := ⟨_, rfl⟩
  rw [hn] at HL HV hcn hle ⊢
  obtain ⟨m, hm⟩ : ∃ m, hs.length = m := ⟨_, rfl⟩
  rw [hm] at HX hh ⊢
  obtain ⟨L, hL⟩ : ∃ L : Int, (n : Int) - (k : Int) = L := ⟨_, rfl⟩
  rw [hL] at HV ⊢
  clear H s ht x0 x1 x2 x3 hC HS hn hk hm hD hL
  go_enter Tryz.func10, Tryz.ntmps10
  go_upto_region 3 with fail
  have hb0 : Below w.heap.size w (w.alloc (.cells #[.int .i64 0, .int .i64 0, .int .u8 0, .int .u8 0, .int .u8 0, .int .u8 0, .int .u8 0, .int .u8 0, .int .u8 0, .int .u8 0, .int .u8 0, .int .u8 0, .int .u8 0, .int .u8 0, .int .u8 0, .int .u8 0, .int .u8 0, .int .u8 0, .int .u8 0, .int .u8 0, .int .u8 0, .int .u8 0, .int .u8 0, .int .u8 0, .int .u8 0, .int .u8 0, .int .u8 0, .int .u8 0, .int .u8 0, .int .u8 0, .int .u8 0, .int .u8 0, .int .u8 0, .int .u8 0, .slice none 0 0] 42)) := (Below.refl _ _).alloc (Nat.le_refl _) _
  have K0 := Blk.new w 42 #[.int .i64 0, .int .i64 0, .int .u8 0, .int .u8 0, .int .u8 0, .int .u8 0, .int .u8 0, .int .u8 0, .int .u8 0, .int .u8 0, .int .u8 0, .int .u8 0, .int .u8 0, .int .u8 0, .int .u8 0, .int .u8 0, .int .u8 0, .int .u8 0, .int .u8 0, .int .u8 0, .int .u8 0, .int .u8 0, .int .u8 0, .int .u8 0, .int .u8 0, .int .u8 0, .int .u8 0, .int .u8 0, .int .u8 0, .int .u8 0, .int .u8 0, .int .u8 0, .int .u8 0, .int .u8 0, .slice none 0 0]
  obtain ⟨W0, hW0⟩ : ∃ W0, w.alloc (.cells #[.int .i64 0, .int .i64 0, .int .u8 0, .int .u8 0, .int .u8 0, .int .u8 0, .int .u8 0, .int .u8 0, .int .u8 0, .int .u8 0, .int .u8 0, .int .u8 0, .int .u8 0, .int .u8 0, .int .u8 0, .int .u8 0, .int .u8 0, .int .u8 0, .int .u8 0, .int .u8 0, .int .u8 0, .int .u8 0, .int .u8 0, .int .u8 0, .int .u8 0, .int .u8 0, .int .u8 0, .int .u8 0, .int .u8 0, .int .u8 0, .int .u8 0, .int .u8 0, .int .u8 0, .int .u8 0, .slice none 0 0] 42) = W0 := ⟨_, rfl⟩
  rw [hW0] at hb0 K0 ⊢
  obtain ⟨Z, hZ⟩ : ∃ Z : Array Value, #[.int .i64 0, .int .i64 0, .int .u8 0, .int .u8 0, .int .u8 0, .int .u8 0, .int .u8 0, .int .u8 0, .int .u8 0, .int .u8 0, .int .u8 0, .int .u8 0, .int .u8 0, .int .u8 0, .int .u8 0, .int .u8 0, .int .u8 0, .int .u8 0, .int .u8 0, .int .u8 0, .int .u8 0, .int .u8 0, .int .u8 0, .int .u8 0, .int .u8 0, .int .u8 0, .int .u8 0, .int .u8 0, .int .u8 0, .int .u8 0, .int .u8 0, .int .u8 0, .int .u8 0, .int .u8 0, .slice none 0 0] = Z := ⟨_, rfl⟩
  rw [hZ] at K0
  have hz35 : Z.size = 35 := by rw [← hZ]; rfl
  have hb1 : Below w.heap.size w W0.drew := Below.drew hb0
  have K1 : Blk W0.drew w.heap.size 42 Z := K0.drew
  obtain ⟨y0, _⟩ := HX.out _ hb1
  have hfold := fold_setT 2 D 0 #[.int .i64 (n : Int), .int .i64 L, .int .u8 0, .int .u8 0, .int .u8 0, .int .u8 0, .int .u8 0, .int .u8 0, .int .u8 0, .int .u8 0, .int .u8 0, .int .u8 0, .int .u8 0, .int .u8 0, .int .u8 0, .int .u8 0, .int .u8 0, .int .u8 0, .int .u8 0, .int .u8 0, .int .u8 0, .int .u8 0, .int .u8 0, .int .u8 0, .int .u8 0, .int .u8 0, .int .u8 0, .int .u8 0, .int .u8 0, .int .u8 0, .int .u8 0, .int .u8 0, .int .u8 0, .int .u8 0, .slice none 0 0] (by rw [hD32]; exact Nat.le_of_ble_eq_true rfl)
  rw [hD32, show (#[.int .i64 (n : Int), .int .i64 L, .int .u8 0, .int .u8 0, .int .u8 0, .int .u8 0, .int .u8 0, .int .u8 0, .int .u8 0, .int .u8 0, .int .u8 0, .int .u8 0, .int .u8 0, .int .u8 0, .int .u8 0, .int .u8 0, .int .u8 0, .int .u8 0, .int .u8 0, .int .u8 0, .int .u8 0, .int .u8 0, .int .u8 0, .int .u8 0, .int .u8 0, .int .u8 0, .int .u8 0, .int .u8 0, .int .u8 0, .int .u8 0, .int .u8 0, .int .u8 0, .int .u8 0, .int .u8 0, .slice none 0 0] : Array Value).toList.take (2 + 0) = [.int .i64 (n : Int), .int .i64 L] from rfl, show (#[.int .i64 (n : Int), .int .i64 L, .int .u8 0, .int .u8 0, .int .u8 0, .int .u8 0, .int .u8 0, .int .u8 0, .int .u8 0, .int .u8 0, .int .u8 0, .int .u8 0, .int .u8 0, .int .u8 0, .int .u8 0, .int .u8 0, .int .u8 0, .int .u8 0, .int .u8 0, .int .u8 0, .int .u8 0, .int .u8 0, .int .u8 0, .int .u8 0, .int .u8 0, .int .u8 0, .int .u8 0, .int .u8 0, .int .u8 0, .int .u8 0, .int .u8 0, .int .u8 0, .int .u8 0, .int .u8 0, .slice none 0 0] : Array Value).toList.drop (2 + 0 + 32) = [.slice none 0 0] from rfl] at hfold
  have hset := fun v => head_set (.int .i64 (n : Int)) (.int .i64 L) (.slice none 0 0) v D hD32
  obtain ⟨F0, hF0⟩ : ∃ F0, ([Value.int .i64 (n : Int), Value.int .i64 L] ++ D ++ [Value.slice none 0 0]).toArray = F0 := ⟨_, rfl⟩
  have hs0 : F0.size = 35 := by rw [← hF0]; simp [hD32]
  rw [hF0] at hfold hset
  have HST := Lib.hid hset
  have HDC := Lib.hid hDc
  clear hW0 hZ hb0 K0 hset hF0 hDc
  go_region_law (first
    | (go_simp; go_at_call 8; refine (HL.out _ hb1).mono ?_; rintro e V ⟨rfl, rfl⟩; show _)
    | (go_simp; go_at_call 14; refine (HV.out _ hb1).mono ?_
       rintro e V1 ⟨rfl, hv1⟩
       have hb2 := hb1.trans (hv1.mono hb1.size)
       have K2 := K1.below hv1 K1.lt
       obtain ⟨y1, _⟩ := HX.out _ hb2
       show _)
    | (go_simp; go_at_call 26; refine (HD.out _ hb2).mono ?_
       rintro e V2 ⟨q, rfl, hq1, hq2, hq3⟩
       have hb3 := hb2.trans (hq3.mono hb2.size)
       have K3 := K2.below hq3 K2.lt
       have hsu := HS'.out V2 hb3 (some ⟨q, 0, none⟩) l.length (reads_blk hq1 _ _ _ hq1.lt (bs_length l) (by simp [bs_length, List.take_of_length_le])) (Nat.le_refl _)
       obtain ⟨y2, _⟩ := HX.out _ hb3
       show _)
    | (go_simp; go_at_call 22; refine hsu.mono ?_
       rintro e V3 ⟨rfl, hv3⟩
       have hb4 := hb3.trans (hv3.mono hb3.size)
       have K4 := K3.below hv3 K3.lt
       obtain ⟨y3, hrC⟩ := HX.out _ hb4
       have hcp := copied_H (c := cC) hrC hh
       show _)
    | (go_simp; go_at_call 27; refine hcp.mono ?_
       rintro e V4 ⟨v9, rfl, ho9, hv9⟩
       obtain ⟨A9, c9, rfl, _, _, _⟩ := own_slice ho9
       have K5 := K4.below hv9 K4.lt
       have hFF := HST.out (.slice A9 m c9)
       obtain ⟨F, hF⟩ : ∃ F, F0.setIfInBounds 34 (.slice A9 m c9) = F := ⟨_, rfl⟩
       rw [hF] at hFF
       have hFs : F.size = 35 := by rw [hFF]; simp [hD32]
       have hall : F.all (·.oneCell') = true := by rw [hFF, Array.all_eq_true_iff_forall_mem]; intro v hv; simp only [List.mem_toArray, List.mem_append, List.mem_cons, List.not_mem_nil, or_false] at hv; rcases hv with ((rfl | rfl) | hv) | rfl <;> first | rfl | exact HDC.out v hv
       have hst := run_storeCells_row (P := Tryz.prog) K5 (cs' := F) (by rw [hFs]; kernel_rfl) (by rw [hFs, hz35]) hall
       have HFF := Lib.hid hFF
       clear hFF hall
       show _))
  all_goals
    have hb5 := hb4.trans (hv9.mono hb4.size)
    have hlt4 : w.heap.size < V3.heap.size := K4.lt
    have o6 := own_base (ho9.kept (grown_setRow V4 w.heap.size F) (by
      cases hq : (Value.slice A9 m c9).ownBlock with
      | none => exact .inl rfl
      | some q' => exact .inr fun e => by injection e with e; have := (ho9.lt q' hq).1; omega)) hb4.size
    have b6 := Below.row hb5 (Nat.le_refl _) F
    have K6 := K5.row F
    have hR : Value.agg F = hdA (n : Int) L D (.slice A9 m c9) := by rw [HFF.out]; rfl
    have H6 := Lib.hid o6; have B6 := Lib.hid b6; have KK6 := Lib.hid K6; have HRR := Lib.hid hR
    clear o6 b6 K6 hR K5 K4 K3 K2 K1 hb5 hb4 hb3 hb2 hb1 ho9 hv9 hv3 hq1 hq2 hq3 hv1 hst hF hsu hcp
    go_wp2_with fail
    exact bodyPost_ret (v := .agg F) (results_cell_row rfl _ _ _ _ _ _ _ (by rfl) KK6.out Tryz.underlying42 rfl (by rw [hFs]; kernel_rfl)) rfl ⟨_, by rw [HRR.out], H6.out, B6.out⟩
end
end Go.Proofs.YtpgdlmnhomnblaaGreatDoor
namespace Go.Proofs.YtpgdlmnhomnblaaGreatDoor
open Go.RowKit
set_option linter.unusedVariables false
set_option linter.unusedSimpArgs false
set_option maxRecDepth 100000
theorem run_forIn_all {P : Program} {α : Type} (f : Nat → Option α × Unit → Sem (ForInStep (Option α × Unit))) (q : Nat → Bool) (r : α) :
    ∀ (is : List Nat) (w : World), (∀ i ∈ is, ∀ W, (f i (none, ())).run P W = .ok (if q i then .yield (none, ()) else .done (some r, ())) W) →
      (forIn is (none, ()) f).run P w = .ok (if is.all q then (none, ()) else (some r, ())) w := by
  intro is
  induction is with
  | nil => intro w _; simp [Sem.run_pure]
  | cons i is ih =>
    intro w h
    have h1 := h i (by simp) w
    have h2 := ih w (fun j hj => h j (by simp [hj]))
    rw [List.forIn_cons, Sem.run_bind, h1]
    by_cases hq : q i = true
    · simp only [hq, if_true, Result.andThen_ok, List.all_cons, Bool.true_and]
      exact h2
    · simp only [Bool.not_eq_true] at hq
      simp [hq, Sem.run_pure]
theorem run_eql_bytes {P : Program} (w : World) (t e : TypeId) (n : Nat) (ht : P.underlying t = some (.array n e)) (he : P.underlying e = some (.int .u8)) (hs : ∀ W, (Go.sizeOf e).run P W = .ok 1 W) (ha : ∀ W, (isAgg e).run P W = .ok false W) (d : Nat) (l m : List Nat) (hl : l.length = n) (hm : m.length = n) :
    (Op.equalIn (d + 2) t (.agg (bs l).toArray) (.agg (bs m).toArray)).run P w = .ok (decide (l = m)) w := by
  obtain ⟨k, hk⟩ : ∃ k, k = d + 1 := ⟨_, rfl⟩
  rw [show d + 2 = k + 1 by omega]
  simp only [Op.equalIn, Sem.run_bind, run_underlying ht, Result.andThen_ok, hs, Nat.mul_one]
  have hp : ∀ (x : List Nat) (i b : Nat) (W : World), x[i]? = some b → (part e (bs x).toArray i).run P W = .ok (.int .u8 (b : Int)) W := by
    intro x i b W hx
    have h1 : (bs x).toArray[i]? = some (.int .u8 (b : Int)) := by rw [List.getElem?_toArray]; unfold bs; rw [List.getElem?_map, hx]; rfl
    simp [part, ha, h1, Sem.run_bind]
  simp only [Std.Legacy.Range.forIn_eq_forIn_range']
  rw [run_forIn_all (P := P) _ (fun i => decide (l.getD i 0 = m.getD i 0)) false]
  · by_cases h : l = m
    · subst h
      have hall : (List.range' 0 [:n].size).all (fun i => decide (l.getD i 0 = l.getD i 0)) = true := by simp
      rw [hall]
      simp [Sem.run_pure]
    · have hall : (List.range' 0 [:n].size).all (fun i => decide (l.getD i 0 = m.getD i 0)) = false := by
        rw [Bool.eq_false_iff]
        intro hc
        rw [List.all_eq_true] at hc
        refine h (List.ext_getElem (by omega) fun i h1 h2 => ?_)
        have := hc i (by simp [Std.Legacy.Range.size]; omega)
        simpa [List.getD_eq_getElem?_getD, List.getElem?_eq_getElem h1, List.getElem?_eq_getElem h2] using this
      rw [hall]
      simp [h, Sem.run_pure]
  · intro i hi W
    have hin : i < n := by
      simp [Std.Legacy.Range.size] at hi
      omega
    obtain ⟨b, hb⟩ : ∃ b, l[i]? = some b := ⟨_, List.getElem?_eq_getElem (by omega)⟩
    obtain ⟨c, hc⟩ : ∃ c, m[i]? = some c := ⟨_, List.getElem?_eq_getElem (by omega)⟩
    subst hk
    have hq := run_equalIn_int (P := P) W d e .u8 .u8 (b : Int) (c : Int) he
    simp only [Sem.run_bind, hp l i b _ hb, hp m i c _ hc, Result.andThen_ok, hq, List.getD_eq_getElem?_getD, hb, hc, Option.getD_some]
    by_cases h : b = c
    · subst h
      simp [Sem.run_pure]
    · have h2 : ((b : Int) == (c : Int)) = false := by simp; omega
      simp [h2, h, Sem.run_pure]
end Go.Proofs.YtpgdlmnhomnblaaGreatDoor
namespace Go.Proofs.YtpgdlmnhomnblaaGreatDoor
open Go.RowKit
set_option linter.unusedVariables false
set_option linter.unusedSimpArgs false
set_option maxRecDepth 100000
theorem eqIn_hash (w : World) (l : List Nat) (hl : l.length = 32) : (Op.equalIn 10000 39 (.agg (bs l).toArray) (.agg (bs l).toArray)).run Tryz.prog w = .ok true w := by
  have h := run_eql_bytes (P := Tryz.prog) w 39 5 32 Tryz.underlying39 Tryz.underlying5 sizeS_u8 agg_u8 9998 l l hl hl
  rw [show (10000 : Nat) = 9998 + 2 from rfl, h]
  simp
theorem eqIn_zone (w : World) (d : Nat) (a : Int) (b : Bool) (c e : Int) (s : Tx) (f g : Int) (t : Tx) :
    (Op.equalIn (d + 3) 55 (.agg #[.int .i64 a, .bool b, .int .i64 c, .int .i64 e, .string ⟨s.toArray⟩, .int .i64 f, .int .i64 g, .string ⟨t.toArray⟩]) (.agg #[.int .i64 a, .bool b, .int .i64 c, .int .i64 e, .string ⟨s.toArray⟩, .int .i64 f, .int .i64 g, .string ⟨t.toArray⟩])).run Tryz.prog w = .ok true w := by
  have hu1 := Tryz.underlying55
  have hu2 := Tryz.underlying51
  go_simp
theorem eqIn_head (w : World) (a : Int) (b : Bool) (c e : Int) (s : Tx) (f g : Int) (t : Tx) (D : List Nat) (hD : D.length = 32) (X : Array Value) (hX : X = ([Value.int .i64 a, Value.bool b, Value.int .i64 c, Value.int .i64 e, Value.string ⟨s.toArray⟩, Value.int .i64 f, Value.int .i64 g, Value.string ⟨t.toArray⟩] ++ bs D).toArray) :
    (Op.equalIn 10000 57 (.agg X) (.agg X)).run Tryz.prog w = .ok true w := by
  have h1 : X.extract 0 8 = #[.int .i64 a, .bool b, .int .i64 c, .int .i64 e, .string ⟨s.toArray⟩, .int .i64 f, .int .i64 g, .string ⟨t.toArray⟩] := by rw [hX]; simp
  have h2 : X.extract 8 40 = (bs D).toArray := by rw [hX]; simp [List.take_of_length_le, hD, bs_length]
  have h3 : X.size = 40 := by rw [hX]; simp [bs_length, hD]
  have hz := fun W => eqIn_zone W 9996 a b c e s f g t
  have hh := fun W => run_eql_bytes (P := Tryz.prog) W 39 5 32 Tryz.underlying39 Tryz.underlying5 sizeS_u8 agg_u8 9997 D D hD hD
  have hu := Tryz.underlying57
  rw [run_equalIn_struct w 9999 57 _ _ (by kernel_rfl) (by kernel_rfl)]
  clear hX
  simp only [Op.eqFields, Program.fieldsOf, hu]
  have hg1 : ∀ W, (isAgg 55).run Tryz.prog W = .ok true W := fun W => by simp [isAgg, run_underlying Tryz.underlying55]
  have hg2 : ∀ W, (isAgg 39).run Tryz.prog W = .ok true W := fun W => by simp [isAgg, run_underlying Tryz.underlying39]
  have hs1 : ∀ W, (Go.sizeOf 55).run Tryz.prog W = .ok 8 W := fun W => by
    obtain ⟨i, hi, hz⟩ := Option.map_eq_some_iff.1 (show (Tryz.prog.info? 55).map (·.size) = some 8 by kernel_rfl)
    simp [Go.sizeOf, typeInfo, hi, hz]
  have hs2 : ∀ W, (Go.sizeOf 39).run Tryz.prog W = .ok 32 W := fun W => by
    obtain ⟨i, hi, hz⟩ := Option.map_eq_some_iff.1 (show (Tryz.prog.info? 39).map (·.size) = some 32 by kernel_rfl)
    simp [Go.sizeOf, typeInfo, hi, hz]
  have p1 : ∀ W, (part 55 X 0).run Tryz.prog W = .ok (.agg #[.int .i64 a, .bool b, .int .i64 c, .int .i64 e, .string ⟨s.toArray⟩, .int .i64 f, .int .i64 g, .string ⟨t.toArray⟩]) W := fun W => by
    simp only [part, Sem.run_bind, hg1, Result.andThen_ok, if_true, hs1, Sem.run_pure, Nat.zero_add, h1]
  have p2 : ∀ W, (part 39 X 8).run Tryz.prog W = .ok (.agg (bs D).toArray) W := fun W => by
    simp only [part, Sem.run_bind, hg2, Result.andThen_ok, if_true, hs2, Sem.run_pure, h2]
  have hz' : ∀ W, (Op.equalIn 9999 55 (.agg #[.int .i64 a, .bool b, .int .i64 c, .int .i64 e, .string ⟨s.toArray⟩, .int .i64 f, .int .i64 g, .string ⟨t.toArray⟩]) (.agg #[.int .i64 a, .bool b, .int .i64 c, .int .i64 e, .string ⟨s.toArray⟩, .int .i64 f, .int .i64 g, .string ⟨t.toArray⟩])).run Tryz.prog W = .ok true W := hz
  have hh' : ∀ W, (Op.equalIn 9999 39 (.agg (bs D).toArray) (.agg (bs D).toArray)).run Tryz.prog W = .ok true W := fun W => by rw [hh]; simp
  rw [if_pos (by decide), if_pos (by decide)]
  simp only [Sem.run_bind, p1, p2, hz', hh', Result.andThen_ok, Bool.not_true, Bool.false_eq_true, if_false, Sem.run_pure]
theorem exec_neq {P : Program} {ρ : Operand → Value} {o : Oper} {t t' : TypeId} {x y : Operand} {X : Array Value} {W : World} (ho : o.op = .binOp .neq t x y t') (hx : ρ x = .agg X) (hy : ρ y = .agg X) (hm : P.eqGuardType P.depth t = false)
    (heq : (Op.equalIn 10000 t (.agg X) (.agg X)).run P W = .ok true W) : (execOp ρ o).run P W = .ok (.value (.bool false)) W := by
  unfold execOp
  simp only [ho, hx, hy, Sem.run_bind, run_eqGuard_agg W .neq t x y X X hm, Result.andThen_ok, run_neq_struct, heq, Bool.not_true, Sem.run_pure]
end Go.Proofs.YtpgdlmnhomnblaaGreatDoor
