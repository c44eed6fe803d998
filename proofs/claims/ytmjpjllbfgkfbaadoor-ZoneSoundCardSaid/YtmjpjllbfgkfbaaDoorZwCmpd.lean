/- Contract of zone's compared: which truths may be of a predicate that names a column. -/
import Derived.Deep.QuietTactic
import Derived.Deep.DeepCutAuto
import Derived.Deep.RegionLaw
import Derived.Test.YtmjpjllbfgkfbaaDoorZwOf2
import Derived.Test.YtmjpjllbfgkfbaaDoorZnMayK
import Derived.Test.YtmjpjllbfgkfbaaDoorJ4
namespace Go.Proofs.YtmjpjllbfgkfbaaDoor
open Go.RowKit
set_option linter.unusedVariables false
set_option linter.unusedSimpArgs false
set_option maxRecDepth 100000

theorem one_of {α : Type} {l : List α} (h : l.length = 1) : ∃ a, l = [a] := by
  match l, h with
  | [a], _ => exact ⟨a, rfl⟩
theorem two_of {α : Type} {l : List α} (h : l.length = 2) : ∃ a b, l = [a, b] := by
  match l, h with
  | [a, b], _ => exact ⟨a, b, rfl⟩
theorem of_any {op : Int} {A : Option Addr} {c n : Nat} {w : World} (vals : List Vl) (mn mx : Vl) (hr : Reads w w.heap.size 3 A n (vs vals)) (hop : 1 ≤ op ∧ op ≤ 8) (h1 : op ≤ 6 → n = 1) (h7 : n ≤ 65536) (h8 : op = 8 → n = 2) :
    Calls Tryd.prog 50 #[.int .i64 op, .slice A n c, vW mn, vW mx] w fun e w' => e = .returned (.tuple #[.bool (ofZ op vals mn mx).1, .bool (ofZ op vals mn mx).2]) ∧ Below w.heap.size w w' := by
  have hl : vals.length = n := by have := hr.1; rw [vs_length] at this; omega
  have hc : op = 1 ∨ op = 2 ∨ op = 3 ∨ op = 4 ∨ op = 5 ∨ op = 6 ∨ op = 7 ∨ op = 8 := by omega
  rcases hc with rfl | rfl | rfl | rfl | rfl | rfl | rfl | rfl
  · obtain rfl := h1 (by omega); obtain ⟨a, rfl⟩ := one_of hl; exact of_1 a mn mx hr
  · obtain rfl := h1 (by omega); obtain ⟨a, rfl⟩ := one_of hl; exact of_2 a mn mx hr
  · obtain rfl := h1 (by omega); obtain ⟨a, rfl⟩ := one_of hl; exact of_3 a mn mx hr
  · obtain rfl := h1 (by omega); obtain ⟨a, rfl⟩ := one_of hl; exact of_4 a mn mx hr
  · obtain rfl := h1 (by omega); obtain ⟨a, rfl⟩ := one_of hl; exact of_5 a mn mx hr
  · obtain rfl := h1 (by omega); obtain ⟨a, rfl⟩ := one_of hl; exact of_6 a mn mx hr
  · exact of_7 vals n mn mx hr h7
  · obtain rfl := h8 rfl; obtain ⟨a, b, rfl⟩ := two_of hl; exact of_8 a b mn mx hr
set_option maxHeartbeats 4000000 in
theorem compared_any {op : Int} {A : Option Addr} {c n : Nat} {w : World} (vals : List Vl) (z : Zn) (hr : Reads w w.heap.size 3 A n (vs vals)) (hop : 1 ≤ op ∧ op ≤ 8) (h1 : op ≤ 6 → n = 1) (h7 : n ≤ 65536) (h8 : op = 8 → n = 2) :
    Calls Tryd.prog 46 #[.int .i64 op, .slice A n c, zW z] w fun e w' => e = .returned (tW ((if z.2.1 then ofZ op vals z.2.2.1 z.2.2.2 else (false, false)).2, decide (0 < z.1), (if z.2.1 then ofZ op vals z.2.2.1 z.2.2.2 else (false, false)).1)) ∧ Below w.heap.size w w' := by
  obtain ⟨nl, so, mn, mx⟩ := z
  have HO := Lib.hid fun (W : World) (hb : Below w.heap.size w W) => of_any (c := c) vals mn mx ((hr.below hb).more hb.size) hop h1 h7 h8
  obtain ⟨⟨t, f⟩, htf⟩ : ∃ q, ofZ op vals mn mx = q := ⟨_, rfl⟩
  simp only [htf] at HO ⊢
  clear hr hop h1 h7 h8 htf
  obtain ⟨m0, m1, zm⟩ := mn
  obtain ⟨n0, n1, zn⟩ := mx
  simp only [zW, tW, vW] at HO ⊢
  obtain ⟨d, hd⟩ : ∃ q, decide (0 < nl) = q := ⟨_, rfl⟩
  rw [hd]
  have K5 := ((Blk.new w 39 #[.int .i64 nl, .bool so, .int .i64 m0, .int .i64 m1, .string ⟨zm.toArray⟩, .int .i64 n0, .int .i64 n1, .string ⟨zn.toArray⟩]).alloc (.cells #[.bool false, .bool false, .bool false] 66)).alloc (.cells #[.bool false, .bool d, .bool false] 66)
  have K6 := (Blk.new (w.alloc (.cells #[.int .i64 nl, .bool so, .int .i64 m0, .int .i64 m1, .string ⟨zm.toArray⟩, .int .i64 n0, .int .i64 n1, .string ⟨zn.toArray⟩] 39)) 66 #[.bool false, .bool false, .bool false]).alloc (.cells #[.bool false, .bool d, .bool false] 66)
  have K7 := Blk.new ((w.alloc (.cells #[.int .i64 nl, .bool so, .int .i64 m0, .int .i64 m1, .string ⟨zm.toArray⟩, .int .i64 n0, .int .i64 n1, .string ⟨zn.toArray⟩] 39)).alloc (.cells #[.bool false, .bool false, .bool false] 66)) 66 #[.bool false, .bool d, .bool false]
  have HB := (((Below.refl w.heap.size w).alloc (Nat.le_refl _) (.cells #[.int .i64 nl, .bool so, .int .i64 m0, .int .i64 m1, .string ⟨zm.toArray⟩, .int .i64 n0, .int .i64 n1, .string ⟨zn.toArray⟩] 39)).alloc (by simp) (.cells #[.bool false, .bool false, .bool false] 66)).alloc (by simp; omega) (.cells #[.bool false, .bool d, .bool false] 66)
  rw [World.size_alloc] at K6
  rw [World.size_alloc, World.size_alloc] at K7
  have HK5 := Lib.hid K5; have HK6 := Lib.hid K6; have HK7 := Lib.hid K7; have HHB := Lib.hid HB
  clear K5 K6 K7 HB
  cases so
  · obtain ⟨r0, r1, r2⟩ := blk3 HK6.out
    obtain ⟨s0, s1, s2⟩ := blk3 HK7.out
    have z0 := HK6.out.frozen 0; have z1 := HK6.out.frozen 1; have z2 := HK6.out.frozen 2
    have p1 := (Blk.new (w.alloc (.cells #[.int .i64 nl, .bool false, .int .i64 m0, .int .i64 m1, .string ⟨zm.toArray⟩, .int .i64 n0, .int .i64 n1, .string ⟨zn.toArray⟩] 39)) 66 #[.bool false, .bool d, .bool false]).alloc (.cells #[.bool false, .bool d, .bool false] 66)
    rw [World.size_alloc] at p1
    have p2 := (((Below.refl w.heap.size w).alloc (Nat.le_refl _) (.cells #[.int .i64 nl, .bool false, .int .i64 m0, .int .i64 m1, .string ⟨zm.toArray⟩, .int .i64 n0, .int .i64 n1, .string ⟨zn.toArray⟩] 39)).alloc (by simp) (.cells #[.bool false, .bool d, .bool false] 66)).alloc (by simp; omega) (.cells #[.bool false, .bool d, .bool false] 66)
    have F1 := Lib.hid p1; have F2 := Lib.hid p2
    clear p1 p2 HO HK5 HK6 HK7 HHB
    go_enter Tryd.func46, Tryd.ntmps46
    go_wp2_with fail
    exact bodyPost_ret (v := .agg #[.bool false, .bool d, .bool false]) (results_cell_row rfl _ _ _ _ _ _ _ (by rfl) F1.out Tryd.underlying66 rfl (by kernel_rfl)) rfl ⟨by simp, F2.out⟩
  · go_enter Tryd.func46, Tryd.ntmps46
    obtain ⟨y0, y1, y2, y3, y4, y5, y6, y7⟩ := blk8 HK5.out
    go_wp2_with fail
    refine (HO.out _ HHB.out).mono ?_
    rintro e w1 ⟨rfl, hb⟩
    have hb1 := HHB.out.trans (hb.mono HHB.out.size)
    have k6 := HK6.out.below hb HK6.out.lt
    have k7 := HK7.out.below hb HK7.out.lt
    clear y0 y1 y2 y3 y4 y5 y6 y7
    obtain ⟨r0, r1, r2⟩ := blk3 k6
    obtain ⟨s0, s1, s2⟩ := blk3 k7
    have z0 := k6.frozen 0; have z1 := k6.frozen 1; have z2 := k6.frozen 2
    have x0 := k7.frozen 0; have x1 := k7.frozen 1; have x2 := k7.frozen 2
    have g6 := (k6.far (p := ⟨w.heap.size + 1 + 1, 2, none⟩) (show w.heap.size + 1 ≠ w.heap.size + 1 + 1 by omega) (.bool t)).far (p := ⟨w.heap.size + 1 + 1, 0, none⟩) (show w.heap.size + 1 ≠ w.heap.size + 1 + 1 by omega) (.bool f)
    have hb2 := (hb1.setCell (p := ⟨w.heap.size + 1 + 1, 2, none⟩) (by show w.heap.size ≤ w.heap.size + 1 + 1; omega) (.bool t)).setCell (p := ⟨w.heap.size + 1 + 1, 0, none⟩) (by show w.heap.size ≤ w.heap.size + 1 + 1; omega) (.bool f)
    obtain ⟨p1, p2⟩ := store3 g6 hb2 (by omega) (.bool f) (.bool d) (.bool t)
    have F1 := Lib.hid p1; have F2 := Lib.hid p2
    clear p1 p2 HK5 HK6 HK7 HHB hb hb1 k6 k7 g6 hb2 HO
    go_wp2_with fail
    exact bodyPost_ret (v := .agg #[.bool f, .bool d, .bool t]) (results_cell_row rfl _ _ _ _ _ _ _ (by rfl) F1.out Tryd.underlying66 rfl (by kernel_rfl)) rfl ⟨by simp, F2.out⟩
end Go.Proofs.YtmjpjllbfgkfbaaDoor
