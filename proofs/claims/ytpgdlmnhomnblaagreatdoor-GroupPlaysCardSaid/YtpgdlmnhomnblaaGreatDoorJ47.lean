import Derived.Deep.RegionWith
import Derived.Test.YtpgdlmnhomnblaaGreatDoorJ9
import Derived.BigQuiet
import Derived.Deep.QuietTactic
import Derived.Deep.DeepCutAuto
import Derived.Deep.CutBlock
import Derived.Test.YtpgdlmnhomnblaaGreatDoorJ31
import Derived.Test.YtpgdlmnhomnblaaGreatDoorJ23
import Derived.Test.YtpgdlmnhomnblaaGreatDoorJ8
import Derived.Test.YtpgdlmnhomnblaaGreatDoorJ4
import Derived.Test.YtpgdlmnhomnblaaGreatDoorJ1
namespace Go.Proofs.YtpgdlmnhomnblaaGreatDoor
open Go.RowKit
set_option linter.unusedVariables false
set_option linter.unusedSimpArgs false
set_option maxRecDepth 100000
section
variable {w : World} {B g h n : Nat} {l : List Nat}
theorem copied_set (s : SetIn w B g h n l) {w1 : World} {q : Nat} (hb : Below w.drew.heap.size w.drew w1) (hq : Blk w1 q 5 (bs l).toArray) (hq2 : w.drew.heap.size ≤ q) :
    NewS w n l (.returned (.pointer (some ⟨w1.heap.size, 0, none⟩))) (w1.alloc (.cells #[.int .i64 (n : Int), .slice (some ⟨q, 0, none⟩) l.length l.length] 87)) := by
  have hb' : Below w.heap.size w w1 := (Drawn.one w 1).below (Below.refl w.heap.size w) |>.trans hb
  exact ⟨w1.heap.size, q, rfl, ⟨s.ok, s.le, Blk.new w1 _ _, hq.alloc _, hb'.size, hq2⟩, hb'.alloc hb'.size _⟩
theorem Copy_any (s : SetIn w B g h n l) : Calls Tryz.prog 25 #[.pointer (some ⟨g, 0, none⟩)] w (NewS w n l) := by
  obtain ⟨c0, c1⟩ := s.cells
  go_enter Tryz.func25, Tryz.ntmps25
  go_wp2_with fail
  go_region_with (go_at_call 53; refine (Bytes_any s.drew).mono ?_; rintro e w1 ⟨q, rfl, hq, hq2, hb⟩; have c2 := (s.drew.below hb (Nat.le_refl _)).cells.1)
  all_goals
    go_wp2_with fail
    go_ret
    exact copied_set s hb hq hq2
end
end Go.Proofs.YtpgdlmnhomnblaaGreatDoor
namespace Go.Proofs.YtpgdlmnhomnblaaGreatDoor
open Go.RowKit
set_option linter.unusedVariables false
set_option linter.unusedSimpArgs false
set_option maxRecDepth 100000
section
variable {w : World} {P : Nat → Prop} {g d h B n c : Nat} {A : Option Addr} {rows : List (List Vl)} {hs : List (Zn × List Nat)} {ks : List (List Nat)} {l : List Nat}
theorem Row_none (H : GrI w P g d rows hs ks) (i : Int) (hi : i < 0 ∨ (rows.length : Int) ≤ i) : Calls Tryz.prog 34 #[.pointer (some ⟨g, 0, none⟩), .int .i64 i] w fun e w' => e = .returned (.slice none 0 0) ∧ w = w' := by
  have HL := Lib.hid (Len_G H)
  clear H
  obtain ⟨n, hn⟩ : ∃ n, rows.length = n := ⟨_, rfl⟩
  rw [hn] at HL hi
  by_cases h0 : i < 0
  · have d0 : decide (i < 0) = true := by simpa using h0
    go_enter Tryz.func34, Tryz.ntmps34
    go_wp2_with fail
    go_ret
    exact ⟨rfl, rfl⟩
  · have d0 : decide (i < 0) = false := by simpa using h0
    have d1 : decide ((n : Int) ≤ i) = true := by simp; omega
    go_enter Tryz.func34, Tryz.ntmps34
    go_wp2_with fail
    refine HL.out.mono ?_
    rintro e w1 ⟨rfl, rfl⟩
    go_wp2_with fail
    go_ret
    exact ⟨rfl, rfl⟩
theorem Row_some (H : GrI w P g d rows hs ks) {k : Nat} {r : List Vl} (hk : rows[k]? = some r) (hr : r.length ≤ 65536) (hn0 : rows.length ≤ 9223372036854775807) : Calls Tryz.prog 34 #[.pointer (some ⟨g, 0, none⟩), .int .i64 (k : Int)] w fun e w' => ∃ v, e = .returned v ∧ w'.ownsRow w.heap.size 51 3 v r.length (vs r) ∧ Below w.heap.size w w' := by
  have HL := Lib.hid (Len_G H)
  obtain ⟨R, cR, C, cC, K, cK, us, vv, h0, h1, h2, h3, h4, h5, h6⟩ := H
  have hkn := (List.getElem?_eq_some_iff.1 hk).1
  obtain ⟨u, hu, A2, c2, rfl, _, hr2⟩ := h3 k r hk
  obtain ⟨bb, oo, rfl, hbb, hcell⟩ := reads_plain2 h2.1 (by omega) hu
  have hck := hcell k _ hu
  have x0 := h0.cell 0
  have HCP := Lib.hid (copied_V (c := c2) hr2.1 hr)
  have d0 : decide ((k : Int) < 0) = false := by simp
  have d1 : decide ((rows.length : Int) ≤ (k : Int)) = false := by simp; omega
  obtain ⟨n, hn⟩ : ∃ n, rows.length = n := ⟨_, rfl⟩
  obtain ⟨m, hm⟩ : ∃ m, r.length = m := ⟨_, rfl⟩
  rw [hn] at HL x0 d1 hkn
  rw [hm] at hck HCP ⊢
  simp only [List.getElem?_toArray, List.getElem?_cons_zero] at x0
  clear h0 h1 h2 h3 h4 h5 h6 hcell hr2 hn hm hu hk
  go_enter Tryz.func34, Tryz.ntmps34
  go_wp2_with fail
  refine HL.out.mono ?_
  rintro e w1 ⟨rfl, rfl⟩
  go_wp2_with fail
  refine HCP.out.mono ?_
  rintro e w2 ⟨v, rfl, ho, hb⟩
  go_wp2_with fail
  go_ret
  exact ⟨_, rfl, ho, hb⟩
theorem Alive_none (H : GrI w P g d rows hs ks) (i : Int) (hi : i < 0 ∨ (rows.length : Int) ≤ i) : Calls Tryz.prog 35 #[.pointer (some ⟨g, 0, none⟩), .int .i64 i] w fun e w' => e = .returned (.bool false) ∧ w = w' := by
  have HL := Lib.hid (Len_G H)
  clear H
  obtain ⟨n, hn⟩ : ∃ n, rows.length = n := ⟨_, rfl⟩
  rw [hn] at HL hi
  by_cases h0 : i < 0
  · have d0 : decide (0 ≤ i) = false := by simp; omega
    go_enter Tryz.func35, Tryz.ntmps35
    go_wp2_with fail
    go_ret
    exact ⟨rfl, rfl⟩
  · have d0 : decide (0 ≤ i) = true := by simp; omega
    have d1 : decide (i < (n : Int)) = false := by simp; omega
    go_enter Tryz.func35, Tryz.ntmps35
    go_wp2_with fail
    refine HL.out.mono ?_
    rintro e w1 ⟨rfl, rfl⟩
    go_wp2_with fail
    go_ret
    exact ⟨rfl, rfl⟩
theorem Alive_some (H : GrI w P g d rows hs ks) (s : SetIn w B d h n l) {k : Nat} (hk : k < rows.length) : Calls Tryz.prog 35 #[.pointer (some ⟨g, 0, none⟩), .int .i64 (k : Int)] w fun e w' => e = .returned (.bool (!has n l (k : Int))) ∧ w = w' := by
  have HL := Lib.hid (Len_G H)
  have HH := Lib.hid (Has_any s (k : Int))
  obtain ⟨R, cR, C, cC, K, cK, x0, x1, x2, x3, _⟩ := H.cells
  have d0 : decide (0 ≤ (k : Int)) = true := by simp
  have d1 : decide ((k : Int) < (rows.length : Int)) = true := by simp; omega
  obtain ⟨nr, hn⟩ : ∃ nr, rows.length = nr := ⟨_, rfl⟩
  obtain ⟨q, hq⟩ : ∃ q, has n l (k : Int) = q := ⟨_, rfl⟩
  rw [hn] at HL d1 x0 hk
  rw [hq] at HH ⊢
  clear H s hn hq
  go_enter Tryz.func35, Tryz.ntmps35
  go_wp2_with fail
  refine HL.out.mono ?_
  rintro e w1 ⟨rfl, rfl⟩
  go_wp2_with fail
  refine HH.out.mono ?_
  rintro e w1 ⟨rfl, rfl⟩
  go_wp2_with fail
  go_ret
  exact ⟨rfl, rfl⟩
theorem copied_B (hr : Reads w w.heap.size 1 A n (bs l)) (hn : n ≤ 281474976710656) :
    Calls Tryz.prog 60 #[.slice A n c] w fun e w' => ∃ v, e = .returned v ∧ w'.ownsRow w.heap.size 5 1 v n (bs l) ∧ Below w.heap.size w w' := by
  have hmk := fun W => run_make_u8n n (by omega) W
  have hln : l.length = n := by have := hr.1; rw [bs_length] at this; omega
  have K0 := Blk.new w 5 (bs (List.replicate n 0)).toArray
  have hr1 := (hr.alloc (Nat.le_refl _) (.cells (bs (List.replicate n 0)).toArray 5))
  have hsz : (bs (List.replicate n 0)).toArray.size = n * 1 := by simp [bs]
  have B0 := (Below.refl w.heap.size w).alloc (Nat.le_refl _) (.cells (bs (List.replicate n 0)).toArray 5)
  have hsv : (Tryz.prog.info? 5).map (·.size) = some 1 := by kernel_rfl
  obtain ⟨Z, hZ⟩ : ∃ Z, (bs (List.replicate n 0)).toArray = Z := ⟨_, rfl⟩
  rw [hZ] at hmk K0 hr1 hsz B0
  have HK0 := Lib.hid K0; have HR1 := Lib.hid hr1; have HSZ := Lib.hid hsz; have HB0 := Lib.hid B0; have HL := Lib.hid hln
  clear hr K0 hr1 hsz B0 hZ hln
  go_enter Tryz.func60, Tryz.ntmps60
  go_wp2_with (with_reducible refine wpList_copy_wholeS rfl (.tmp 7) (.tmp 8) _ _ rfl 5 Tryz.underlying66 1 hsv w.heap.size n n c w.heap.size A 5 Z (bs l) rfl rfl HK0.out HSZ.out HR1.out (bs_one l) ?_; intro w2 HG2 hg2)
  go_ret
  exact ⟨_, rfl, own_wholeS HG2.out (Nat.le_refl _) (by rw [bs_length, HL.out]; omega) (by unfold maxLen; omega), HB0.out.grown hg2 (by simp) (fun k hk => by injection hk with hk; omega)⟩
theorem Chunk_none (H : GrI w P g d rows hs ks) (i : Int) (hi : i < 0 ∨ (ks.length : Int) ≤ i) : Calls Tryz.prog 36 #[.pointer (some ⟨g, 0, none⟩), .int .i64 i] w fun e w' => e = .returned (.slice none 0 0) ∧ w = w' := by
  obtain ⟨R, cR, C, cC, K, cK, x0, x1, x2, x3, _⟩ := H.cells
  clear H
  by_cases h0 : i < 0
  · have d0 : decide (i < 0) = true := by simpa using h0
    go_enter Tryz.func36, Tryz.ntmps36
    go_wp2_with fail
    go_ret
    exact ⟨rfl, rfl⟩
  · have d0 : decide (i < 0) = false := by simpa using h0
    have d1 : decide ((ks.length : Int) ≤ i) = true := by simp; omega
    go_enter Tryz.func36, Tryz.ntmps36
    go_wp2_with fail
    go_ret
    exact ⟨rfl, rfl⟩
theorem Chunk_some (H : GrI w P g d rows hs ks) {k : Nat} {b : List Nat} (hk : ks[k]? = some b) (hb : b.length ≤ 281474976710656) (hn0 : ks.length ≤ 9223372036854775807) : Calls Tryz.prog 36 #[.pointer (some ⟨g, 0, none⟩), .int .i64 (k : Int)] w fun e w' => ∃ v, e = .returned v ∧ w'.ownsRow w.heap.size 5 1 v b.length (bs b) ∧ Below w.heap.size w w' := by
  obtain ⟨R, cR, C, cC, K, cK, us, vv, h0, h1, h2, h3, h4, h5, h6⟩ := H
  have hkn := (List.getElem?_eq_some_iff.1 hk).1
  obtain ⟨u, hu, A2, c2, rfl, _, hr2⟩ := h6 k b hk
  obtain ⟨bb, oo, rfl, hbb, hcell⟩ := reads_plain2 h5.1 (by omega) hu
  have hck := hcell k _ hu
  have x3 := h0.cell 3
  have HCP := Lib.hid (copied_B (c := c2) hr2.1 hb)
  have d0 : decide ((k : Int) < 0) = false := by simp
  have d1 : decide ((ks.length : Int) ≤ (k : Int)) = false := by simp; omega
  obtain ⟨n, hn⟩ : ∃ n, ks.length = n := ⟨_, rfl⟩
  obtain ⟨m, hm⟩ : ∃ m, b.length = m := ⟨_, rfl⟩
  rw [hn] at x3 d1 hkn
  rw [hm] at hck HCP ⊢
  simp only [List.getElem?_toArray, List.getElem?_cons_zero, List.getElem?_cons_succ] at x3
  clear h0 h1 h2 h3 h4 h5 h6 hcell hr2 hn hm hu hk
  go_enter Tryz.func36, Tryz.ntmps36
  go_wp2_with fail
  refine HCP.out.mono ?_
  rintro e w2 ⟨v, rfl, ho, hb⟩
  go_wp2_with fail
  go_ret
  exact ⟨_, rfl, ho, hb⟩
theorem Copy_G (H : GrI w P g d rows hs ks) (s : SetIn w B d h n l) {P' : Nat → Prop} (hP : ∀ q, P' q → P q ∨ w.heap.size ≤ q) (hP2 : ∀ q, w.heap.size ≤ q → P' q → False) :
    Calls Tryz.prog 9 #[.pointer (some ⟨g, 0, none⟩)] w fun e w' => ∃ g2 d2 h2, e = .returned (.pointer (some ⟨g2, 0, none⟩)) ∧ GrI w' P' g2 d2 rows hs ks ∧ SetIn w' w.heap.size d2 h2 n l ∧ Below w.heap.size w w' := by
  obtain ⟨R, cR, C, cC, K, cK, us, vv, h0, h1, h2, h3, h4, h5, h6⟩ := H
  have HS := Lib.hid s
  have x0 := h0.cell 0; have x1 := h0.cell 1; have x2 := h0.cell 2; have x3 := h0.cell 3
  simp only [List.getElem?_toArray, List.getElem?_cons_zero, List.getElem?_cons_succ] at x0 x1 x2 x3
  go_enter Tryz.func9, Tryz.ntmps9
  go_upto_region 4 with fail
  have hb1 : Below w.heap.size w (w.alloc (.cells #[.slice R rows.length cR, .pointer (some ⟨d, 0, none⟩), .slice C hs.length cC, .slice K ks.length cK] 63)) := (Below.refl _ _).alloc (Nat.le_refl _) _
  have k1 := Blk.new w 63 #[.slice R rows.length cR, .pointer (some ⟨d, 0, none⟩), .slice C hs.length cC, .slice K ks.length cK]
  have y1 := (hb1.cell (World.block_lt_of_cell? _ _ x1)).trans x1
  obtain ⟨W1, hW1⟩ : ∃ q, w.alloc (.cells #[.slice R rows.length cR, .pointer (some ⟨d, 0, none⟩), .slice C hs.length cC, .slice K ks.length cK] 63) = q := ⟨_, rfl⟩
  rw [hW1] at hb1 k1 y1 ⊢
  have s1 := HS.out.below hb1 (Nat.le_refl _)
  have HC := Lib.hid (Copy_any s1)
  have HB1 := Lib.hid hb1; have HK1 := Lib.hid k1
  clear hW1 hb1 k1 s1 x0 x1 x2 x3
  go_wp2_with fail
  refine HC.out.mono ?_
  rintro e W2 ⟨d2, q2, he, hs2, hb2⟩
  subst he
  have k2 := HK1.out.below hb2 HK1.out.lt
  have hb02 := HB1.out.trans (hb2.mono HB1.out.size)
  have c0 := k2.cell 1
  simp only [List.getElem?_toArray, List.getElem?_cons_zero, List.getElem?_cons_succ] at c0
  have f0 := k2.frozen 1
  have k3 := k2.set_ 1 (.pointer (some ⟨d2, 0, none⟩))
  simp only [List.setIfInBounds_toArray, List.set_cons_succ, List.set_cons_zero] at k3
  have h1d := hs2.bg; have h1h := hs2.bh; have hlt := HK1.out.lt
  have s3 := (hs2.setCell (p := ⟨w.heap.size, 1, none⟩) (by show d2 ≠ w.heap.size; omega) (by show q2 ≠ w.heap.size; omega) (.pointer (some ⟨d2, 0, none⟩))).from (B' := w.heap.size) (by omega)
  have b3 := hb02.setCell (p := ⟨w.heap.size, 1, none⟩) (Nat.le_refl _) (.pointer (some ⟨d2, 0, none⟩))
  have st : Stp w (W2.setCell ⟨w.heap.size, 1, none⟩ (.pointer (some ⟨d2, 0, none⟩))) P P' none := Stp.below' b3 hP
  have G3 : GrI (W2.setCell ⟨w.heap.size, 1, none⟩ (.pointer (some ⟨d2, 0, none⟩))) P' w.heap.size d2 rows hs ks :=
    ⟨R, cR, C, cC, K, cK, us, vv, k3, fun hp => hP2 _ (Nat.le_refl _) hp, h2.step st, h3.step st, h4.step st, h5.step st, h6.step st⟩
  have HG3 := Lib.hid G3; have HS3 := Lib.hid s3; have HB3 := Lib.hid b3
  clear G3 s3 b3 st k3 k2 hb02 hs2 hb2 h2 h3 h4 h5 h6 h0 hP
  go_wp2_with fail
  go_ret
  exact ⟨_, _, _, rfl, HG3.out, HS3.out, HB3.out⟩
end
end Go.Proofs.YtpgdlmnhomnblaaGreatDoor
namespace Go.Proofs.YtpgdlmnhomnblaaGreatDoor
open Go.RowKit
set_option linter.unusedVariables false
set_option linter.unusedSimpArgs false
set_option maxRecDepth 100000
set_option maxHeartbeats 400000 in
theorem sameV_true (A A' : Option Addr) (n c c' : Nat) (l : List (Int × Int × Tx)) (w : World) (h1 : Reads w w.heap.size 3 A n (vs l)) (h2 : Reads w w.heap.size 3 A' n (vs l)) (hn : n ≤ 65536) :
    Calls Tryz.prog 33 #[.slice A n c, .slice A' n c'] w fun e w' => e = .returned (.bool true) ∧ Drawn w w' := by
  have e1 : l.length = n := by have := h1.1; rw [vs_length] at this; omega
  go_enter Tryz.func33, Tryz.ntmps33
  go_wp2_with fail
  go_loopw [5] (fun i wr => ∃ k : Nat, k ≤ n ∧ i = .int .i64 (k : Int) ∧ ∃ q, wr = w.drewN q) (fun i _ => n - (intOf i).toNat)
  case atStart => exact ⟨0, Nat.zero_le _, rfl, 0, rfl⟩
  case round =>
    obtain ⟨k, hk, rfl, q, rfl⟩ := hrel
    by_cases hlt : k < n
    · obtain ⟨⟨v0, v1, v2⟩, hv⟩ : ∃ v, l[k]? = some v := ⟨_, List.getElem?_eq_getElem (by omega)⟩
      obtain ⟨b, o, rfl, hb, x0, x1, x2⟩ := h1.val hv
      obtain ⟨b', o', rfl, hb', y0, y1, y2⟩ := h2.val hv
      have q1 : (v2 == v2) = true := by simp
      clear hv e1
      go_wp2_with fail
      go_quiet (fail)
      go_wp2_with fail
      exact ⟨⟨k + 1, by omega, by go_num, _, rfl⟩, by simp [intOf]; omega⟩
    · go_wp2_with fail
      go_ret
      exact ⟨rfl, _, rfl⟩
end Go.Proofs.YtpgdlmnhomnblaaGreatDoor
namespace Go.Proofs.YtpgdlmnhomnblaaGreatDoor
open Go.RowKit
set_option linter.unusedVariables false
set_option linter.unusedSimpArgs false
set_option maxRecDepth 100000
def sameB (l m : List Nat) : Bool := decide (l = m)
theorem sameB_true {l m : List Nat} (h : l = m) : sameB l m = true := by unfold sameB; simp [h]
theorem sameB_false {l m : List Nat} (h : l ≠ m) : sameB l m = false := by unfold sameB; simp [h]
set_option maxHeartbeats 400000 in
theorem same_any (A A' : Option Addr) (n c m c' : Nat) (l1 l2 : List Nat) (w : World) (h1 : Reads w w.heap.size 1 A n (bs l1)) (h2 : Reads w w.heap.size 1 A' m (bs l2)) (hn : n ≤ 140737488355328) :
    Calls Tryz.prog 31 #[.slice A n c, .slice A' m c'] w fun e w' => e = .returned (.bool (sameB l1 l2)) ∧ Drawn w w' := by
  have e1 : l1.length = n := by have := h1.1; rw [bs_length] at this; omega
  have e2 : l2.length = m := by have := h2.1; rw [bs_length] at this; omega
  by_cases hnm : n = m
  · subst hnm
    have E1 := Lib.hid e1; have E2 := Lib.hid e2; clear e1 e2
    go_enter Tryz.func31, Tryz.ntmps31
    go_wp2_with fail
    go_loopw [5] (fun i wr => ∃ k : Nat, k ≤ n ∧ i = .int .i64 (k : Int) ∧ Hid (l1.take k = l2.take k) ∧ ∃ q, wr = w.drewN q) (fun i _ => n - (intOf i).toNat)
    case atStart => exact ⟨0, Nat.zero_le _, rfl, Lib.hid (by simp), 0, rfl⟩
    case round =>
      obtain ⟨k, hk, rfl, hpre, q, rfl⟩ := hrel
      by_cases hlt : k < n
      · obtain ⟨ad, u, rfl, _, hu, hc⟩ := h1.at_ hlt
        obtain ⟨ad', u', rfl, _, hu', hc'⟩ := h2.at_ hlt
        obtain ⟨b, hb, rfl⟩ := bs_at hu
        obtain ⟨b', hb', rfl⟩ := bs_at hu'
        have HB := Lib.hid hb; have HB' := Lib.hid hb'
        clear hb hb' hu hu'
        by_cases hbb : b = b'
        · subst hbb
          go_wp2_with fail
          go_quiet (fail)
          go_wp2_with fail
          have hpre' := hpre.out
          refine ⟨⟨k + 1, by omega, by go_num, Lib.hid ?_, _, rfl⟩, by simp [intOf]; omega⟩
          rw [List.take_add_one, List.take_add_one, hpre', HB.out, HB'.out]
        · have hne : ((b : Int) != (b' : Int)) = true := by simp; omega
          have hne' : ((b : Int) == (b' : Int)) = false := by simp; omega
          go_wp2_with fail
          go_quiet (fail)
          go_wp2_with fail
          go_ret
          refine ⟨ret_of (congrArg Value.bool (sameB_false ?_).symm), (Drawn.one w q).more _⟩
          intro h
          have := HB.out
          rw [h, HB'.out] at this
          injection this with this
          omega
      · go_wp2_with fail
        go_ret
        obtain rfl : k = n := by omega
        have e1 := E1.out; have e2 := E2.out; have hpre' := hpre.out
        refine ⟨ret_of (congrArg Value.bool (sameB_true ?_).symm), _, rfl⟩
        rwa [List.take_of_length_le (by omega), List.take_of_length_le (by omega)] at hpre'
  · have hne : ((n : Int) != (m : Int)) = true := by simp; omega
    have hne' : ((n : Int) == (m : Int)) = false := by simp; omega
    have E1 := Lib.hid e1; have E2 := Lib.hid e2; clear e1 e2
    go_enter Tryz.func31, Tryz.ntmps31
    go_wp2_with fail
    go_ret
    have e1 := E1.out; have e2 := E2.out
    refine ⟨ret_of (congrArg Value.bool (sameB_false ?_).symm), Drawn.refl w⟩
    rintro rfl
    omega
end Go.Proofs.YtpgdlmnhomnblaaGreatDoor
