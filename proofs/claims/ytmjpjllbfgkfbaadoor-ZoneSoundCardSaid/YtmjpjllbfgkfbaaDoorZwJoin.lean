/- Contract of zone's joined: what comes of each choice of two parts' truths. -/
import Derived.Deep.QuietTactic
import Derived.Deep.DeepCutAuto
import Derived.Deep.RegionLaw
import Derived.Test.YtmjpjllbfgkfbaaDoorJ3
import Derived.Test.YtmjpjllbfgkfbaaDoorZnMayK
import Derived.Test.YtmjpjllbfgkfbaaDoorZnMayJ
namespace Go.Proofs.YtmjpjllbfgkfbaaDoor
open Go.RowKit
set_option linter.unusedVariables false
set_option linter.unusedSimpArgs false
set_option maxRecDepth 100000

theorem min_any (a b : Int) (w : World) : Calls Tryd.prog 44 #[.int .i64 a, .int .i64 b] w fun e w' => e = .returned (.int .i64 (min a b)) ∧ w = w' := by
  go_enter Tryd.func44, Tryd.ntmps44
  go_wp2_with fail
  all_goals
    go_ret
    refine ⟨ret_of ?_, rfl⟩
    first
      | (rw [Int.min_eq_right (by omega)]; rfl)
      | (rw [Int.min_eq_left (by omega)]; rfl)
theorem max_any (a b : Int) (w : World) : Calls Tryd.prog 45 #[.int .i64 a, .int .i64 b] w fun e w' => e = .returned (.int .i64 (max a b)) ∧ w = w' := by
  go_enter Tryd.func45, Tryd.ntmps45
  go_wp2_with fail
  all_goals
    go_ret
    refine ⟨ret_of ?_, rfl⟩
    first
      | (rw [Int.max_eq_right (by omega)]; rfl)
      | (rw [Int.max_eq_left (by omega)]; rfl)


theorem put3_no (t : Tr3) (k : Nat) : put3 t false k = t := by obtain ⟨a, b, c⟩ := t; simp [put3]
/-- While choices are gone through. -/
structure JW (w : World) (o x t : Tr3) (wr : World) : Prop where
  b : Below w.heap.size w wr
  ko : Blk wr w.heap.size 66 (cs3 o)
  kx : Blk wr (w.heap.size + 1) 66 (cs3 x)
  kr : Blk wr (w.heap.size + 1 + 1) 66 (cs3 (false, false, false))
  kt : Blk wr (w.heap.size + 1 + 1 + 1) 66 (cs3 t)
theorem JW.put {w wr : World} {o x t : Tr3} (h : JW w o x t wr) (k : Nat) (hk : k < 3) : JW w o x (put3 t true k) (wr.setCell ⟨w.heap.size + 1 + 1 + 1, k, none⟩ (.bool true)) := by
  refine ⟨h.b.setCell (p := ⟨w.heap.size + 1 + 1 + 1, k, none⟩) (by show w.heap.size ≤ w.heap.size + 1 + 1 + 1; omega) _, h.ko.far (p := ⟨w.heap.size + 1 + 1 + 1, k, none⟩) (show w.heap.size ≠ w.heap.size + 1 + 1 + 1 by omega) _, h.kx.far (p := ⟨w.heap.size + 1 + 1 + 1, k, none⟩) (show w.heap.size + 1 ≠ w.heap.size + 1 + 1 + 1 by omega) _, h.kr.far (p := ⟨w.heap.size + 1 + 1 + 1, k, none⟩) (show w.heap.size + 1 + 1 ≠ w.heap.size + 1 + 1 + 1 by omega) _, ?_⟩
  have h1 := h.kt.set_ k (.bool true)
  obtain ⟨a, b, c⟩ := t
  have hk3 : k = 0 ∨ k = 1 ∨ k = 2 := by omega
  rcases hk3 with rfl | rfl | rfl
  · simpa [cs3, put3] using h1
  · simpa [cs3, put3] using h1
  · simpa [cs3, put3] using h1
theorem JW.start (w : World) (o x : Tr3) : JW w o x (false, false, false) ((((w.alloc (.cells (cs3 o) 66)).alloc (.cells (cs3 x) 66)).alloc (.cells (cs3 (false, false, false)) 66)).alloc (.cells (cs3 (false, false, false)) 66)) := by
  have k1 := (((Blk.new w 66 (cs3 o)).alloc (.cells (cs3 x) 66)).alloc (.cells (cs3 (false, false, false)) 66)).alloc (.cells (cs3 (false, false, false)) 66)
  have k2 := ((Blk.new (w.alloc (.cells (cs3 o) 66)) 66 (cs3 x)).alloc (.cells (cs3 (false, false, false)) 66)).alloc (.cells (cs3 (false, false, false)) 66)
  have k3 := (Blk.new ((w.alloc (.cells (cs3 o) 66)).alloc (.cells (cs3 x) 66)) 66 (cs3 (false, false, false))).alloc (.cells (cs3 (false, false, false)) 66)
  have k4 := Blk.new (((w.alloc (.cells (cs3 o) 66)).alloc (.cells (cs3 x) 66)).alloc (.cells (cs3 (false, false, false)) 66)) 66 (cs3 (false, false, false))
  rw [World.size_alloc] at k2
  rw [World.size_alloc, World.size_alloc] at k3
  rw [World.size_alloc, World.size_alloc, World.size_alloc] at k4
  exact ⟨((((Below.refl w.heap.size w).alloc (Nat.le_refl _) _).alloc (by simp) _).alloc (by simp; omega) _).alloc (by simp; omega) _, k1, k2, k3, k4⟩
theorem JW.cells {w wr : World} {o0 o1 o2 x0 x1 x2 t0 t1 t2 : Bool} (h : JW w (o0, o1, o2) (x0, x1, x2) (t0, t1, t2) wr) :
    (wr.cell? ⟨w.heap.size, 0, none⟩ = some (.bool o0) ∧ wr.cell? ⟨w.heap.size, 1, none⟩ = some (.bool o1) ∧ wr.cell? ⟨w.heap.size, 2, none⟩ = some (.bool o2)) ∧
    (wr.cell? ⟨w.heap.size + 1, 0, none⟩ = some (.bool x0) ∧ wr.cell? ⟨w.heap.size + 1, 1, none⟩ = some (.bool x1) ∧ wr.cell? ⟨w.heap.size + 1, 2, none⟩ = some (.bool x2)) ∧
    (wr.cell? ⟨w.heap.size + 1 + 1 + 1, 0, none⟩ = some (.bool t0) ∧ wr.cell? ⟨w.heap.size + 1 + 1 + 1, 1, none⟩ = some (.bool t1) ∧ wr.cell? ⟨w.heap.size + 1 + 1 + 1, 2, none⟩ = some (.bool t2)) ∧
    (wr.frozen? ⟨w.heap.size + 1 + 1 + 1, 0, none⟩ = false ∧ wr.frozen? ⟨w.heap.size + 1 + 1 + 1, 1, none⟩ = false ∧ wr.frozen? ⟨w.heap.size + 1 + 1 + 1, 2, none⟩ = false) :=
  ⟨blk3 h.ko, blk3 h.kx, blk3 h.kt, h.kt.frozen 0, h.kt.frozen 1, h.kt.frozen 2⟩
section
variable {w : World}
set_option maxHeartbeats 4000000 in
theorem joined_min (o x : Tr3) : Calls Tryd.prog 49 #[tW o, tW x, .func (.func 44) #[] #[]] w fun e w' => e = .returned (tW (jn3 10 o x)) ∧ Below w.heap.size w w' := by
  obtain ⟨o0, o1, o2⟩ := o
  obtain ⟨x0, x1, x2⟩ := x
  have J0 := JW.start w (o0, o1, o2) (x0, x1, x2)
  obtain ⟨⟨R0, R1, R2⟩, hR⟩ : ∃ q, jn3 10 (o0, o1, o2) (x0, x1, x2) = q := ⟨_, rfl⟩
  rw [hR]
  have HR := Lib.hid (show jnA 10 (o0, o1, o2) (x0, x1, x2) 3 = (R0, R1, R2) from hR)
  clear hR
  simp only [tW]
  go_enter Tryd.func49, Tryd.ntmps49
  go_wp2_with fail
  go_loopw [8, 10] (fun _ i wr => (i = .int .i64 0 ∧ JW w (o0, o1, o2) (x0, x1, x2) (jnA 10 (o0, o1, o2) (x0, x1, x2) 0) wr) ∨ (i = .int .i64 1 ∧ JW w (o0, o1, o2) (x0, x1, x2) (jnA 10 (o0, o1, o2) (x0, x1, x2) 1) wr) ∨ (i = .int .i64 2 ∧ JW w (o0, o1, o2) (x0, x1, x2) (jnA 10 (o0, o1, o2) (x0, x1, x2) 2) wr) ∨ (i = .int .i64 3 ∧ JW w (o0, o1, o2) (x0, x1, x2) (jnA 10 (o0, o1, o2) (x0, x1, x2) 3) wr)) (fun _ i _ => 3 - (intOf i).toNat)
  case atStart => exact .inl ⟨rfl, J0⟩
  case round =>
    clear J0
    rcases hrel with ⟨rfl, J⟩ | ⟨rfl, J⟩ | ⟨rfl, J⟩ | ⟨rfl, J⟩
    · obtain ⟨t, ht⟩ : ∃ t, jnA 10 (o0, o1, o2) (x0, x1, x2) 0 = t := ⟨_, rfl⟩
      rw [ht] at J
      have HT := Lib.hid ht
      clear ht
      go_wp2_with fail
      go_loopw [9, 13] (fun _ i wr => (i = .int .i64 0 ∧ JW w (o0, o1, o2) (x0, x1, x2) (jnB 10 (o0, o1, o2) (x0, x1, x2) 0 t 0) wr) ∨ (i = .int .i64 1 ∧ JW w (o0, o1, o2) (x0, x1, x2) (jnB 10 (o0, o1, o2) (x0, x1, x2) 0 t 1) wr) ∨ (i = .int .i64 2 ∧ JW w (o0, o1, o2) (x0, x1, x2) (jnB 10 (o0, o1, o2) (x0, x1, x2) 0 t 2) wr) ∨ (i = .int .i64 3 ∧ JW w (o0, o1, o2) (x0, x1, x2) (jnB 10 (o0, o1, o2) (x0, x1, x2) 0 t 3) wr)) (fun _ i _ => 3 - (intOf i).toNat)
      case atStart => exact .inl ⟨rfl, J⟩
      case round =>
        clear J
        rcases hrel with ⟨rfl, J⟩ | ⟨rfl, J⟩ | ⟨rfl, J⟩ | ⟨rfl, J⟩
        · obtain ⟨⟨t0, t1, t2⟩, ht⟩ : ∃ q, jnB 10 (o0, o1, o2) (x0, x1, x2) 0 t 0 = q := ⟨_, rfl⟩
          have hs : jnB 10 (o0, o1, o2) (x0, x1, x2) 0 t 1 = put3 (t0, t1, t2) (o0 && x0) 0 := by rw [← ht]; rfl
          rw [ht] at J
          have HJ := Lib.hid J; have HS := Lib.hid hs
          obtain ⟨⟨c0, c1, c2⟩, ⟨d0, d1, d2⟩, ⟨e0, e1, e2⟩, f0, f1, f2⟩ := J.cells
          have hj := min_any 0 0
          rw [show min (0 : Int) 0 = 0 from rfl] at hj
          have HM := Lib.hid hj
          clear ht J hs hj
          cases o0
          · clear HM
            go_wp2_with fail
            go_round
            case rel => exact .inr (.inl ⟨rfl, by rw [HS.out, Bool.false_and, put3_no]; exact HJ.out⟩)
            case measure => simp [intOf]
          · cases x0
            · clear HM
              go_wp2_with fail
              go_round
              case rel => exact .inr (.inl ⟨rfl, by rw [HS.out, Bool.and_false, put3_no]; exact HJ.out⟩)
              case measure => simp [intOf]
            · go_wp2_with fail
              refine (HM.out _).mono ?_
              rintro e w1 ⟨rfl, rfl⟩
              go_wp2_with fail
              go_round
              case rel => exact .inr (.inl ⟨rfl, by rw [HS.out, Bool.and_self]; exact HJ.out.put 0 (by omega)⟩)
              case measure => simp [intOf]
        · obtain ⟨⟨t0, t1, t2⟩, ht⟩ : ∃ q, jnB 10 (o0, o1, o2) (x0, x1, x2) 0 t 1 = q := ⟨_, rfl⟩
          have hs : jnB 10 (o0, o1, o2) (x0, x1, x2) 0 t 2 = put3 (t0, t1, t2) (o0 && x1) 0 := by rw [← ht]; rfl
          rw [ht] at J
          have HJ := Lib.hid J; have HS := Lib.hid hs
          obtain ⟨⟨c0, c1, c2⟩, ⟨d0, d1, d2⟩, ⟨e0, e1, e2⟩, f0, f1, f2⟩ := J.cells
          have hj := min_any 0 1
          rw [show min (0 : Int) 1 = 0 from rfl] at hj
          have HM := Lib.hid hj
          clear ht J hs hj
          cases o0
          · clear HM
            go_wp2_with fail
            go_round
            case rel => exact .inr (.inr (.inl ⟨rfl, by rw [HS.out, Bool.false_and, put3_no]; exact HJ.out⟩))
            case measure => simp [intOf]
          · cases x1
            · clear HM
              go_wp2_with fail
              go_round
              case rel => exact .inr (.inr (.inl ⟨rfl, by rw [HS.out, Bool.and_false, put3_no]; exact HJ.out⟩))
              case measure => simp [intOf]
            · go_wp2_with fail
              refine (HM.out _).mono ?_
              rintro e w1 ⟨rfl, rfl⟩
              go_wp2_with fail
              go_round
              case rel => exact .inr (.inr (.inl ⟨rfl, by rw [HS.out, Bool.and_self]; exact HJ.out.put 0 (by omega)⟩))
              case measure => simp [intOf]
        · obtain ⟨⟨t0, t1, t2⟩, ht⟩ : ∃ q, jnB 10 (o0, o1, o2) (x0, x1, x2) 0 t 2 = q := ⟨_, rfl⟩
          have hs : jnB 10 (o0, o1, o2) (x0, x1, x2) 0 t 3 = put3 (t0, t1, t2) (o0 && x2) 0 := by rw [← ht]; rfl
          rw [ht] at J
          have HJ := Lib.hid J; have HS := Lib.hid hs
          obtain ⟨⟨c0, c1, c2⟩, ⟨d0, d1, d2⟩, ⟨e0, e1, e2⟩, f0, f1, f2⟩ := J.cells
          have hj := min_any 0 2
          rw [show min (0 : Int) 2 = 0 from rfl] at hj
          have HM := Lib.hid hj
          clear ht J hs hj
          cases o0
          · clear HM
            go_wp2_with fail
            go_round
            case rel => exact .inr (.inr (.inr (⟨rfl, by rw [HS.out, Bool.false_and, put3_no]; exact HJ.out⟩)))
            case measure => simp [intOf]
          · cases x2
            · clear HM
              go_wp2_with fail
              go_round
              case rel => exact .inr (.inr (.inr (⟨rfl, by rw [HS.out, Bool.and_false, put3_no]; exact HJ.out⟩)))
              case measure => simp [intOf]
            · go_wp2_with fail
              refine (HM.out _).mono ?_
              rintro e w1 ⟨rfl, rfl⟩
              go_wp2_with fail
              go_round
              case rel => exact .inr (.inr (.inr (⟨rfl, by rw [HS.out, Bool.and_self]; exact HJ.out.put 0 (by omega)⟩)))
              case measure => simp [intOf]
        · go_wp2_with fail
          go_round
          case rel => exact .inr (.inl ⟨rfl, by show JW _ _ _ (jnB 10 (o0, o1, o2) (x0, x1, x2) 0 (jnA 10 (o0, o1, o2) (x0, x1, x2) 0) 3) _; rw [HT.out]; exact J⟩)
          case measure => simp [intOf]
    · obtain ⟨t, ht⟩ : ∃ t, jnA 10 (o0, o1, o2) (x0, x1, x2) 1 = t := ⟨_, rfl⟩
      rw [ht] at J
      have HT := Lib.hid ht
      clear ht
      go_wp2_with fail
      go_loopw [9, 13] (fun _ i wr => (i = .int .i64 0 ∧ JW w (o0, o1, o2) (x0, x1, x2) (jnB 10 (o0, o1, o2) (x0, x1, x2) 1 t 0) wr) ∨ (i = .int .i64 1 ∧ JW w (o0, o1, o2) (x0, x1, x2) (jnB 10 (o0, o1, o2) (x0, x1, x2) 1 t 1) wr) ∨ (i = .int .i64 2 ∧ JW w (o0, o1, o2) (x0, x1, x2) (jnB 10 (o0, o1, o2) (x0, x1, x2) 1 t 2) wr) ∨ (i = .int .i64 3 ∧ JW w (o0, o1, o2) (x0, x1, x2) (jnB 10 (o0, o1, o2) (x0, x1, x2) 1 t 3) wr)) (fun _ i _ => 3 - (intOf i).toNat)
      case atStart => exact .inl ⟨rfl, J⟩
      case round =>
        clear J
        rcases hrel with ⟨rfl, J⟩ | ⟨rfl, J⟩ | ⟨rfl, J⟩ | ⟨rfl, J⟩
        · obtain ⟨⟨t0, t1, t2⟩, ht⟩ : ∃ q, jnB 10 (o0, o1, o2) (x0, x1, x2) 1 t 0 = q := ⟨_, rfl⟩
          have hs : jnB 10 (o0, o1, o2) (x0, x1, x2) 1 t 1 = put3 (t0, t1, t2) (o1 && x0) 0 := by rw [← ht]; rfl
          rw [ht] at J
          have HJ := Lib.hid J; have HS := Lib.hid hs
          obtain ⟨⟨c0, c1, c2⟩, ⟨d0, d1, d2⟩, ⟨e0, e1, e2⟩, f0, f1, f2⟩ := J.cells
          have hj := min_any 1 0
          rw [show min (1 : Int) 0 = 0 from rfl] at hj
          have HM := Lib.hid hj
          clear ht J hs hj
          cases o1
          · clear HM
            go_wp2_with fail
            go_round
            case rel => exact .inr (.inl ⟨rfl, by rw [HS.out, Bool.false_and, put3_no]; exact HJ.out⟩)
            case measure => simp [intOf]
          · cases x0
            · clear HM
              go_wp2_with fail
              go_round
              case rel => exact .inr (.inl ⟨rfl, by rw [HS.out, Bool.and_false, put3_no]; exact HJ.out⟩)
              case measure => simp [intOf]
            · go_wp2_with fail
              refine (HM.out _).mono ?_
              rintro e w1 ⟨rfl, rfl⟩
              go_wp2_with fail
              go_round
              case rel => exact .inr (.inl ⟨rfl, by rw [HS.out, Bool.and_self]; exact HJ.out.put 0 (by omega)⟩)
              case measure => simp [intOf]
        · obtain ⟨⟨t0, t1, t2⟩, ht⟩ : ∃ q, jnB 10 (o0, o1, o2) (x0, x1, x2) 1 t 1 = q := ⟨_, rfl⟩
          have hs : jnB 10 (o0, o1, o2) (x0, x1, x2) 1 t 2 = put3 (t0, t1, t2) (o1 && x1) 1 := by rw [← ht]; rfl
          rw [ht] at J
          have HJ := Lib.hid J; have HS := Lib.hid hs
          obtain ⟨⟨c0, c1, c2⟩, ⟨d0, d1, d2⟩, ⟨e0, e1, e2⟩, f0, f1, f2⟩ := J.cells
          have hj := min_any 1 1
          rw [show min (1 : Int) 1 = 1 from rfl] at hj
          have HM := Lib.hid hj
          clear ht J hs hj
          cases o1
          · clear HM
            go_wp2_with fail
            go_round
            case rel => exact .inr (.inr (.inl ⟨rfl, by rw [HS.out, Bool.false_and, put3_no]; exact HJ.out⟩))
            case measure => simp [intOf]
          · cases x1
            · clear HM
              go_wp2_with fail
              go_round
              case rel => exact .inr (.inr (.inl ⟨rfl, by rw [HS.out, Bool.and_false, put3_no]; exact HJ.out⟩))
              case measure => simp [intOf]
            · go_wp2_with fail
              refine (HM.out _).mono ?_
              rintro e w1 ⟨rfl, rfl⟩
              go_wp2_with fail
              go_round
              case rel => exact .inr (.inr (.inl ⟨rfl, by rw [HS.out, Bool.and_self]; exact HJ.out.put 1 (by omega)⟩))
              case measure => simp [intOf]
        · obtain ⟨⟨t0, t1, t2⟩, ht⟩ : ∃ q, jnB 10 (o0, o1, o2) (x0, x1, x2) 1 t 2 = q := ⟨_, rfl⟩
          have hs : jnB 10 (o0, o1, o2) (x0, x1, x2) 1 t 3 = put3 (t0, t1, t2) (o1 && x2) 1 := by rw [← ht]; rfl
          rw [ht] at J
          have HJ := Lib.hid J; have HS := Lib.hid hs
          obtain ⟨⟨c0, c1, c2⟩, ⟨d0, d1, d2⟩, ⟨e0, e1, e2⟩, f0, f1, f2⟩ := J.cells
          have hj := min_any 1 2
          rw [show min (1 : Int) 2 = 1 from rfl] at hj
          have HM := Lib.hid hj
          clear ht J hs hj
          cases o1
          · clear HM
            go_wp2_with fail
            go_round
            case rel => exact .inr (.inr (.inr (⟨rfl, by rw [HS.out, Bool.false_and, put3_no]; exact HJ.out⟩)))
            case measure => simp [intOf]
          · cases x2
            · clear HM
              go_wp2_with fail
              go_round
              case rel => exact .inr (.inr (.inr (⟨rfl, by rw [HS.out, Bool.and_false, put3_no]; exact HJ.out⟩)))
              case measure => simp [intOf]
            · go_wp2_with fail
              refine (HM.out _).mono ?_
              rintro e w1 ⟨rfl, rfl⟩
              go_wp2_with fail
              go_round
              case rel => exact .inr (.inr (.inr (⟨rfl, by rw [HS.out, Bool.and_self]; exact HJ.out.put 1 (by omega)⟩)))
              case measure => simp [intOf]
        · go_wp2_with fail
          go_round
          case rel => exact .inr (.inr (.inl ⟨rfl, by show JW _ _ _ (jnB 10 (o0, o1, o2) (x0, x1, x2) 1 (jnA 10 (o0, o1, o2) (x0, x1, x2) 1) 3) _; rw [HT.out]; exact J⟩))
          case measure => simp [intOf]
    · obtain ⟨t, ht⟩ : ∃ t, jnA 10 (o0, o1, o2) (x0, x1, x2) 2 = t := ⟨_, rfl⟩
      rw [ht] at J
      have HT := Lib.hid ht
      clear ht
      go_wp2_with fail
      go_loopw [9, 13] (fun _ i wr => (i = .int .i64 0 ∧ JW w (o0, o1, o2) (x0, x1, x2) (jnB 10 (o0, o1, o2) (x0, x1, x2) 2 t 0) wr) ∨ (i = .int .i64 1 ∧ JW w (o0, o1, o2) (x0, x1, x2) (jnB 10 (o0, o1, o2) (x0, x1, x2) 2 t 1) wr) ∨ (i = .int .i64 2 ∧ JW w (o0, o1, o2) (x0, x1, x2) (jnB 10 (o0, o1, o2) (x0, x1, x2) 2 t 2) wr) ∨ (i = .int .i64 3 ∧ JW w (o0, o1, o2) (x0, x1, x2) (jnB 10 (o0, o1, o2) (x0, x1, x2) 2 t 3) wr)) (fun _ i _ => 3 - (intOf i).toNat)
      case atStart => exact .inl ⟨rfl, J⟩
      case round =>
        clear J
        rcases hrel with ⟨rfl, J⟩ | ⟨rfl, J⟩ | ⟨rfl, J⟩ | ⟨rfl, J⟩
        · obtain ⟨⟨t0, t1, t2⟩, ht⟩ : ∃ q, jnB 10 (o0, o1, o2) (x0, x1, x2) 2 t 0 = q := ⟨_, rfl⟩
          have hs : jnB 10 (o0, o1, o2) (x0, x1, x2) 2 t 1 = put3 (t0, t1, t2) (o2 && x0) 0 := by rw [← ht]; rfl
          rw [ht] at J
          have HJ := Lib.hid J; have HS := Lib.hid hs
          obtain ⟨⟨c0, c1, c2⟩, ⟨d0, d1, d2⟩, ⟨e0, e1, e2⟩, f0, f1, f2⟩ := J.cells
          have hj := min_any 2 0
          rw [show min (2 : Int) 0 = 0 from rfl] at hj
          have HM := Lib.hid hj
          clear ht J hs hj
          cases o2
          · clear HM
            go_wp2_with fail
            go_round
            case rel => exact .inr (.inl ⟨rfl, by rw [HS.out, Bool.false_and, put3_no]; exact HJ.out⟩)
            case measure => simp [intOf]
          · cases x0
            · clear HM
              go_wp2_with fail
              go_round
              case rel => exact .inr (.inl ⟨rfl, by rw [HS.out, Bool.and_false, put3_no]; exact HJ.out⟩)
              case measure => simp [intOf]
            · go_wp2_with fail
              refine (HM.out _).mono ?_
              rintro e w1 ⟨rfl, rfl⟩
              go_wp2_with fail
              go_round
              case rel => exact .inr (.inl ⟨rfl, by rw [HS.out, Bool.and_self]; exact HJ.out.put 0 (by omega)⟩)
              case measure => simp [intOf]
        · obtain ⟨⟨t0, t1, t2⟩, ht⟩ : ∃ q, jnB 10 (o0, o1, o2) (x0, x1, x2) 2 t 1 = q := ⟨_, rfl⟩
          have hs : jnB 10 (o0, o1, o2) (x0, x1, x2) 2 t 2 = put3 (t0, t1, t2) (o2 && x1) 1 := by rw [← ht]; rfl
          rw [ht] at J
          have HJ := Lib.hid J; have HS := Lib.hid hs
          obtain ⟨⟨c0, c1, c2⟩, ⟨d0, d1, d2⟩, ⟨e0, e1, e2⟩, f0, f1, f2⟩ := J.cells
          have hj := min_any 2 1
          rw [show min (2 : Int) 1 = 1 from rfl] at hj
          have HM := Lib.hid hj
          clear ht J hs hj
          cases o2
          · clear HM
            go_wp2_with fail
            go_round
            case rel => exact .inr (.inr (.inl ⟨rfl, by rw [HS.out, Bool.false_and, put3_no]; exact HJ.out⟩))
            case measure => simp [intOf]
          · cases x1
            · clear HM
              go_wp2_with fail
              go_round
              case rel => exact .inr (.inr (.inl ⟨rfl, by rw [HS.out, Bool.and_false, put3_no]; exact HJ.out⟩))
              case measure => simp [intOf]
            · go_wp2_with fail
              refine (HM.out _).mono ?_
              rintro e w1 ⟨rfl, rfl⟩
              go_wp2_with fail
              go_round
              case rel => exact .inr (.inr (.inl ⟨rfl, by rw [HS.out, Bool.and_self]; exact HJ.out.put 1 (by omega)⟩))
              case measure => simp [intOf]
        · obtain ⟨⟨t0, t1, t2⟩, ht⟩ : ∃ q, jnB 10 (o0, o1, o2) (x0, x1, x2) 2 t 2 = q := ⟨_, rfl⟩
          have hs : jnB 10 (o0, o1, o2) (x0, x1, x2) 2 t 3 = put3 (t0, t1, t2) (o2 && x2) 2 := by rw [← ht]; rfl
          rw [ht] at J
          have HJ := Lib.hid J; have HS := Lib.hid hs
          obtain ⟨⟨c0, c1, c2⟩, ⟨d0, d1, d2⟩, ⟨e0, e1, e2⟩, f0, f1, f2⟩ := J.cells
          have hj := min_any 2 2
          rw [show min (2 : Int) 2 = 2 from rfl] at hj
          have HM := Lib.hid hj
          clear ht J hs hj
          cases o2
          · clear HM
            go_wp2_with fail
            go_round
            case rel => exact .inr (.inr (.inr (⟨rfl, by rw [HS.out, Bool.false_and, put3_no]; exact HJ.out⟩)))
            case measure => simp [intOf]
          · cases x2
            · clear HM
              go_wp2_with fail
              go_round
              case rel => exact .inr (.inr (.inr (⟨rfl, by rw [HS.out, Bool.and_false, put3_no]; exact HJ.out⟩)))
              case measure => simp [intOf]
            · go_wp2_with fail
              refine (HM.out _).mono ?_
              rintro e w1 ⟨rfl, rfl⟩
              go_wp2_with fail
              go_round
              case rel => exact .inr (.inr (.inr (⟨rfl, by rw [HS.out, Bool.and_self]; exact HJ.out.put 2 (by omega)⟩)))
              case measure => simp [intOf]
        · go_wp2_with fail
          go_round
          case rel => exact .inr (.inr (.inr (⟨rfl, by show JW _ _ _ (jnB 10 (o0, o1, o2) (x0, x1, x2) 2 (jnA 10 (o0, o1, o2) (x0, x1, x2) 2) 3) _; rw [HT.out]; exact J⟩)))
          case measure => simp [intOf]
    · rw [HR.out] at J
      have HJ := Lib.hid J
      obtain ⟨⟨c0, c1, c2⟩, ⟨d0, d1, d2⟩, ⟨e0, e1, e2⟩, f0, f1, f2⟩ := J.cells
      obtain ⟨r0, r1, r2⟩ := blk3 J.kr
      have z0 := J.kr.frozen 0; have z1 := J.kr.frozen 1; have z2 := J.kr.frozen 2
      obtain ⟨s1, s2⟩ := store3 J.kr J.b (by omega) (.bool R0) (.bool R1) (.bool R2)
      have F1 := Lib.hid s1; have F2 := Lib.hid s2
      clear J s1 s2
      go_wp2_with fail
      exact bodyPost_ret (v := .agg #[.bool R0, .bool R1, .bool R2]) (results_cell_row rfl _ _ _ _ _ _ _ (by rfl) F1.out Tryd.underlying66 rfl (by kernel_rfl)) rfl ⟨rfl, F2.out⟩
set_option maxHeartbeats 4000000 in
theorem joined_max (o x : Tr3) : Calls Tryd.prog 49 #[tW o, tW x, .func (.func 45) #[] #[]] w fun e w' => e = .returned (tW (jn3 11 o x)) ∧ Below w.heap.size w w' := by
  obtain ⟨o0, o1, o2⟩ := o
  obtain ⟨x0, x1, x2⟩ := x
  have J0 := JW.start w (o0, o1, o2) (x0, x1, x2)
  obtain ⟨⟨R0, R1, R2⟩, hR⟩ : ∃ q, jn3 11 (o0, o1, o2) (x0, x1, x2) = q := ⟨_, rfl⟩
  rw [hR]
  have HR := Lib.hid (show jnA 11 (o0, o1, o2) (x0, x1, x2) 3 = (R0, R1, R2) from hR)
  clear hR
  simp only [tW]
  go_enter Tryd.func49, Tryd.ntmps49
  go_wp2_with fail
  go_loopw [8, 10] (fun _ i wr => (i = .int .i64 0 ∧ JW w (o0, o1, o2) (x0, x1, x2) (jnA 11 (o0, o1, o2) (x0, x1, x2) 0) wr) ∨ (i = .int .i64 1 ∧ JW w (o0, o1, o2) (x0, x1, x2) (jnA 11 (o0, o1, o2) (x0, x1, x2) 1) wr) ∨ (i = .int .i64 2 ∧ JW w (o0, o1, o2) (x0, x1, x2) (jnA 11 (o0, o1, o2) (x0, x1, x2) 2) wr) ∨ (i = .int .i64 3 ∧ JW w (o0, o1, o2) (x0, x1, x2) (jnA 11 (o0, o1, o2) (x0, x1, x2) 3) wr)) (fun _ i _ => 3 - (intOf i).toNat)
  case atStart => exact .inl ⟨rfl, J0⟩
  case round =>
    clear J0
    rcases hrel with ⟨rfl, J⟩ | ⟨rfl, J⟩ | ⟨rfl, J⟩ | ⟨rfl, J⟩
    · obtain ⟨t, ht⟩ : ∃ t, jnA 11 (o0, o1, o2) (x0, x1, x2) 0 = t := ⟨_, rfl⟩
      rw [ht] at J
      have HT := Lib.hid ht
      clear ht
      go_wp2_with fail
      go_loopw [9, 13] (fun _ i wr => (i = .int .i64 0 ∧ JW w (o0, o1, o2) (x0, x1, x2) (jnB 11 (o0, o1, o2) (x0, x1, x2) 0 t 0) wr) ∨ (i = .int .i64 1 ∧ JW w (o0, o1, o2) (x0, x1, x2) (jnB 11 (o0, o1, o2) (x0, x1, x2) 0 t 1) wr) ∨ (i = .int .i64 2 ∧ JW w (o0, o1, o2) (x0, x1, x2) (jnB 11 (o0, o1, o2) (x0, x1, x2) 0 t 2) wr) ∨ (i = .int .i64 3 ∧ JW w (o0, o1, o2) (x0, x1, x2) (jnB 11 (o0, o1, o2) (x0, x1, x2) 0 t 3) wr)) (fun _ i _ => 3 - (intOf i).toNat)
      case atStart => exact .inl ⟨rfl, J⟩
      case round =>
        clear J
        rcases hrel with ⟨rfl, J⟩ | ⟨rfl, J⟩ | ⟨rfl, J⟩ | ⟨rfl, J⟩
        · obtain ⟨⟨t0, t1, t2⟩, ht⟩ : ∃ q, jnB 11 (o0, o1, o2) (x0, x1, x2) 0 t 0 = q := ⟨_, rfl⟩
          have hs : jnB 11 (o0, o1, o2) (x0, x1, x2) 0 t 1 = put3 (t0, t1, t2) (o0 && x0) 0 := by rw [← ht]; rfl
          rw [ht] at J
          have HJ := Lib.hid J; have HS := Lib.hid hs
          obtain ⟨⟨c0, c1, c2⟩, ⟨d0, d1, d2⟩, ⟨e0, e1, e2⟩, f0, f1, f2⟩ := J.cells
          have hj := max_any 0 0
          rw [show max (0 : Int) 0 = 0 from rfl] at hj
          have HM := Lib.hid hj
          clear ht J hs hj
          cases o0
          · clear HM
            go_wp2_with fail
            go_round
            case rel => exact .inr (.inl ⟨rfl, by rw [HS.out, Bool.false_and, put3_no]; exact HJ.out⟩)
            case measure => simp [intOf]
          · cases x0
            · clear HM
              go_wp2_with fail
              go_round
              case rel => exact .inr (.inl ⟨rfl, by rw [HS.out, Bool.and_false, put3_no]; exact HJ.out⟩)
              case measure => simp [intOf]
            · go_wp2_with fail
              refine (HM.out _).mono ?_
              rintro e w1 ⟨rfl, rfl⟩
              go_wp2_with fail
              go_round
              case rel => exact .inr (.inl ⟨rfl, by rw [HS.out, Bool.and_self]; exact HJ.out.put 0 (by omega)⟩)
              case measure => simp [intOf]
        · obtain ⟨⟨t0, t1, t2⟩, ht⟩ : ∃ q, jnB 11 (o0, o1, o2) (x0, x1, x2) 0 t 1 = q := ⟨_, rfl⟩
          have hs : jnB 11 (o0, o1, o2) (x0, x1, x2) 0 t 2 = put3 (t0, t1, t2) (o0 && x1) 1 := by rw [← ht]; rfl
          rw [ht] at J
          have HJ := Lib.hid J; have HS := Lib.hid hs
          obtain ⟨⟨c0, c1, c2⟩, ⟨d0, d1, d2⟩, ⟨e0, e1, e2⟩, f0, f1, f2⟩ := J.cells
          have hj := max_any 0 1
          rw [show max (0 : Int) 1 = 1 from rfl] at hj
          have HM := Lib.hid hj
          clear ht J hs hj
          cases o0
          · clear HM
            go_wp2_with fail
            go_round
            case rel => exact .inr (.inr (.inl ⟨rfl, by rw [HS.out, Bool.false_and, put3_no]; exact HJ.out⟩))
            case measure => simp [intOf]
          · cases x1
            · clear HM
              go_wp2_with fail
              go_round
              case rel => exact .inr (.inr (.inl ⟨rfl, by rw [HS.out, Bool.and_false, put3_no]; exact HJ.out⟩))
              case measure => simp [intOf]
            · go_wp2_with fail
              refine (HM.out _).mono ?_
              rintro e w1 ⟨rfl, rfl⟩
              go_wp2_with fail
              go_round
              case rel => exact .inr (.inr (.inl ⟨rfl, by rw [HS.out, Bool.and_self]; exact HJ.out.put 1 (by omega)⟩))
              case measure => simp [intOf]
        · obtain ⟨⟨t0, t1, t2⟩, ht⟩ : ∃ q, jnB 11 (o0, o1, o2) (x0, x1, x2) 0 t 2 = q := ⟨_, rfl⟩
          have hs : jnB 11 (o0, o1, o2) (x0, x1, x2) 0 t 3 = put3 (t0, t1, t2) (o0 && x2) 2 := by rw [← ht]; rfl
          rw [ht] at J
          have HJ := Lib.hid J; have HS := Lib.hid hs
          obtain ⟨⟨c0, c1, c2⟩, ⟨d0, d1, d2⟩, ⟨e0, e1, e2⟩, f0, f1, f2⟩ := J.cells
          have hj := max_any 0 2
          rw [show max (0 : Int) 2 = 2 from rfl] at hj
          have HM := Lib.hid hj
          clear ht J hs hj
          cases o0
          · clear HM
            go_wp2_with fail
            go_round
            case rel => exact .inr (.inr (.inr (⟨rfl, by rw [HS.out, Bool.false_and, put3_no]; exact HJ.out⟩)))
            case measure => simp [intOf]
          · cases x2
            · clear HM
              go_wp2_with fail
              go_round
              case rel => exact .inr (.inr (.inr (⟨rfl, by rw [HS.out, Bool.and_false, put3_no]; exact HJ.out⟩)))
              case measure => simp [intOf]
            · go_wp2_with fail
              refine (HM.out _).mono ?_
              rintro e w1 ⟨rfl, rfl⟩
              go_wp2_with fail
              go_round
              case rel => exact .inr (.inr (.inr (⟨rfl, by rw [HS.out, Bool.and_self]; exact HJ.out.put 2 (by omega)⟩)))
              case measure => simp [intOf]
        · go_wp2_with fail
          go_round
          case rel => exact .inr (.inl ⟨rfl, by show JW _ _ _ (jnB 11 (o0, o1, o2) (x0, x1, x2) 0 (jnA 11 (o0, o1, o2) (x0, x1, x2) 0) 3) _; rw [HT.out]; exact J⟩)
          case measure => simp [intOf]
    · obtain ⟨t, ht⟩ : ∃ t, jnA 11 (o0, o1, o2) (x0, x1, x2) 1 = t := ⟨_, rfl⟩
      rw [ht] at J
      have HT := Lib.hid ht
      clear ht
      go_wp2_with fail
      go_loopw [9, 13] (fun _ i wr => (i = .int .i64 0 ∧ JW w (o0, o1, o2) (x0, x1, x2) (jnB 11 (o0, o1, o2) (x0, x1, x2) 1 t 0) wr) ∨ (i = .int .i64 1 ∧ JW w (o0, o1, o2) (x0, x1, x2) (jnB 11 (o0, o1, o2) (x0, x1, x2) 1 t 1) wr) ∨ (i = .int .i64 2 ∧ JW w (o0, o1, o2) (x0, x1, x2) (jnB 11 (o0, o1, o2) (x0, x1, x2) 1 t 2) wr) ∨ (i = .int .i64 3 ∧ JW w (o0, o1, o2) (x0, x1, x2) (jnB 11 (o0, o1, o2) (x0, x1, x2) 1 t 3) wr)) (fun _ i _ => 3 - (intOf i).toNat)
      case atStart => exact .inl ⟨rfl, J⟩
      case round =>
        clear J
        rcases hrel with ⟨rfl, J⟩ | ⟨rfl, J⟩ | ⟨rfl, J⟩ | ⟨rfl, J⟩
        · obtain ⟨⟨t0, t1, t2⟩, ht⟩ : ∃ q, jnB 11 (o0, o1, o2) (x0, x1, x2) 1 t 0 = q := ⟨_, rfl⟩
          have hs : jnB 11 (o0, o1, o2) (x0, x1, x2) 1 t 1 = put3 (t0, t1, t2) (o1 && x0) 1 := by rw [← ht]; rfl
          rw [ht] at J
          have HJ := Lib.hid J; have HS := Lib.hid hs
          obtain ⟨⟨c0, c1, c2⟩, ⟨d0, d1, d2⟩, ⟨e0, e1, e2⟩, f0, f1, f2⟩ := J.cells
          have hj := max_any 1 0
          rw [show max (1 : Int) 0 = 1 from rfl] at hj
          have HM := Lib.hid hj
          clear ht J hs hj
          cases o1
          · clear HM
            go_wp2_with fail
            go_round
            case rel => exact .inr (.inl ⟨rfl, by rw [HS.out, Bool.false_and, put3_no]; exact HJ.out⟩)
            case measure => simp [intOf]
          · cases x0
            · clear HM
              go_wp2_with fail
              go_round
              case rel => exact .inr (.inl ⟨rfl, by rw [HS.out, Bool.and_false, put3_no]; exact HJ.out⟩)
              case measure => simp [intOf]
            · go_wp2_with fail
              refine (HM.out _).mono ?_
              rintro e w1 ⟨rfl, rfl⟩
              go_wp2_with fail
              go_round
              case rel => exact .inr (.inl ⟨rfl, by rw [HS.out, Bool.and_self]; exact HJ.out.put 1 (by omega)⟩)
              case measure => simp [intOf]
        · obtain ⟨⟨t0, t1, t2⟩, ht⟩ : ∃ q, jnB 11 (o0, o1, o2) (x0, x1, x2) 1 t 1 = q := ⟨_, rfl⟩
          have hs : jnB 11 (o0, o1, o2) (x0, x1, x2) 1 t 2 = put3 (t0, t1, t2) (o1 && x1) 1 := by rw [← ht]; rfl
          rw [ht] at J
          have HJ := Lib.hid J; have HS := Lib.hid hs
          obtain ⟨⟨c0, c1, c2⟩, ⟨d0, d1, d2⟩, ⟨e0, e1, e2⟩, f0, f1, f2⟩ := J.cells
          have hj := max_any 1 1
          rw [show max (1 : Int) 1 = 1 from rfl] at hj
          have HM := Lib.hid hj
          clear ht J hs hj
          cases o1
          · clear HM
            go_wp2_with fail
            go_round
            case rel => exact .inr (.inr (.inl ⟨rfl, by rw [HS.out, Bool.false_and, put3_no]; exact HJ.out⟩))
            case measure => simp [intOf]
          · cases x1
            · clear HM
              go_wp2_with fail
              go_round
              case rel => exact .inr (.inr (.inl ⟨rfl, by rw [HS.out, Bool.and_false, put3_no]; exact HJ.out⟩))
              case measure => simp [intOf]
            · go_wp2_with fail
              refine (HM.out _).mono ?_
              rintro e w1 ⟨rfl, rfl⟩
              go_wp2_with fail
              go_round
              case rel => exact .inr (.inr (.inl ⟨rfl, by rw [HS.out, Bool.and_self]; exact HJ.out.put 1 (by omega)⟩))
              case measure => simp [intOf]
        · obtain ⟨⟨t0, t1, t2⟩, ht⟩ : ∃ q, jnB 11 (o0, o1, o2) (x0, x1, x2) 1 t 2 = q := ⟨_, rfl⟩
          have hs : jnB 11 (o0, o1, o2) (x0, x1, x2) 1 t 3 = put3 (t0, t1, t2) (o1 && x2) 2 := by rw [← ht]; rfl
          rw [ht] at J
          have HJ := Lib.hid J; have HS := Lib.hid hs
          obtain ⟨⟨c0, c1, c2⟩, ⟨d0, d1, d2⟩, ⟨e0, e1, e2⟩, f0, f1, f2⟩ := J.cells
          have hj := max_any 1 2
          rw [show max (1 : Int) 2 = 2 from rfl] at hj
          have HM := Lib.hid hj
          clear ht J hs hj
          cases o1
          · clear HM
            go_wp2_with fail
            go_round
            case rel => exact .inr (.inr (.inr (⟨rfl, by rw [HS.out, Bool.false_and, put3_no]; exact HJ.out⟩)))
            case measure => simp [intOf]
          · cases x2
            · clear HM
              go_wp2_with fail
              go_round
              case rel => exact .inr (.inr (.inr (⟨rfl, by rw [HS.out, Bool.and_false, put3_no]; exact HJ.out⟩)))
              case measure => simp [intOf]
            · go_wp2_with fail
              refine (HM.out _).mono ?_
              rintro e w1 ⟨rfl, rfl⟩
              go_wp2_with fail
              go_round
              case rel => exact .inr (.inr (.inr (⟨rfl, by rw [HS.out, Bool.and_self]; exact HJ.out.put 2 (by omega)⟩)))
              case measure => simp [intOf]
        · go_wp2_with fail
          go_round
          case rel => exact .inr (.inr (.inl ⟨rfl, by show JW _ _ _ (jnB 11 (o0, o1, o2) (x0, x1, x2) 1 (jnA 11 (o0, o1, o2) (x0, x1, x2) 1) 3) _; rw [HT.out]; exact J⟩))
          case measure => simp [intOf]
    · obtain ⟨t, ht⟩ : ∃ t, jnA 11 (o0, o1, o2) (x0, x1, x2) 2 = t := ⟨_, rfl⟩
      rw [ht] at J
      have HT := Lib.hid ht
      clear ht
      go_wp2_with fail
      go_loopw [9, 13] (fun _ i wr => (i = .int .i64 0 ∧ JW w (o0, o1, o2) (x0, x1, x2) (jnB 11 (o0, o1, o2) (x0, x1, x2) 2 t 0) wr) ∨ (i = .int .i64 1 ∧ JW w (o0, o1, o2) (x0, x1, x2) (jnB 11 (o0, o1, o2) (x0, x1, x2) 2 t 1) wr) ∨ (i = .int .i64 2 ∧ JW w (o0, o1, o2) (x0, x1, x2) (jnB 11 (o0, o1, o2) (x0, x1, x2) 2 t 2) wr) ∨ (i = .int .i64 3 ∧ JW w (o0, o1, o2) (x0, x1, x2) (jnB 11 (o0, o1, o2) (x0, x1, x2) 2 t 3) wr)) (fun _ i _ => 3 - (intOf i).toNat)
      case atStart => exact .inl ⟨rfl, J⟩
      case round =>
        clear J
        rcases hrel with ⟨rfl, J⟩ | ⟨rfl, J⟩ | ⟨rfl, J⟩ | ⟨rfl, J⟩
        · obtain ⟨⟨t0, t1, t2⟩, ht⟩ : ∃ q, jnB 11 (o0, o1, o2) (x0, x1, x2) 2 t 0 = q := ⟨_, rfl⟩
          have hs : jnB 11 (o0, o1, o2) (x0, x1, x2) 2 t 1 = put3 (t0, t1, t2) (o2 && x0) 2 := by rw [← ht]; rfl
          rw [ht] at J
          have HJ := Lib.hid J; have HS := Lib.hid hs
          obtain ⟨⟨c0, c1, c2⟩, ⟨d0, d1, d2⟩, ⟨e0, e1, e2⟩, f0, f1, f2⟩ := J.cells
          have hj := max_any 2 0
          rw [show max (2 : Int) 0 = 2 from rfl] at hj
          have HM := Lib.hid hj
          clear ht J hs hj
          cases o2
          · clear HM
            go_wp2_with fail
            go_round
            case rel => exact .inr (.inl ⟨rfl, by rw [HS.out, Bool.false_and, put3_no]; exact HJ.out⟩)
            case measure => simp [intOf]
          · cases x0
            · clear HM
              go_wp2_with fail
              go_round
              case rel => exact .inr (.inl ⟨rfl, by rw [HS.out, Bool.and_false, put3_no]; exact HJ.out⟩)
              case measure => simp [intOf]
            · go_wp2_with fail
              refine (HM.out _).mono ?_
              rintro e w1 ⟨rfl, rfl⟩
              go_wp2_with fail
              go_round
              case rel => exact .inr (.inl ⟨rfl, by rw [HS.out, Bool.and_self]; exact HJ.out.put 2 (by omega)⟩)
              case measure => simp [intOf]
        · obtain ⟨⟨t0, t1, t2⟩, ht⟩ : ∃ q, jnB 11 (o0, o1, o2) (x0, x1, x2) 2 t 1 = q := ⟨_, rfl⟩
          have hs : jnB 11 (o0, o1, o2) (x0, x1, x2) 2 t 2 = put3 (t0, t1, t2) (o2 && x1) 2 := by rw [← ht]; rfl
          rw [ht] at J
          have HJ := Lib.hid J; have HS := Lib.hid hs
          obtain ⟨⟨c0, c1, c2⟩, ⟨d0, d1, d2⟩, ⟨e0, e1, e2⟩, f0, f1, f2⟩ := J.cells
          have hj := max_any 2 1
          rw [show max (2 : Int) 1 = 2 from rfl] at hj
          have HM := Lib.hid hj
          clear ht J hs hj
          cases o2
          · clear HM
            go_wp2_with fail
            go_round
            case rel => exact .inr (.inr (.inl ⟨rfl, by rw [HS.out, Bool.false_and, put3_no]; exact HJ.out⟩))
            case measure => simp [intOf]
          · cases x1
            · clear HM
              go_wp2_with fail
              go_round
              case rel => exact .inr (.inr (.inl ⟨rfl, by rw [HS.out, Bool.and_false, put3_no]; exact HJ.out⟩))
              case measure => simp [intOf]
            · go_wp2_with fail
              refine (HM.out _).mono ?_
              rintro e w1 ⟨rfl, rfl⟩
              go_wp2_with fail
              go_round
              case rel => exact .inr (.inr (.inl ⟨rfl, by rw [HS.out, Bool.and_self]; exact HJ.out.put 2 (by omega)⟩))
              case measure => simp [intOf]
        · obtain ⟨⟨t0, t1, t2⟩, ht⟩ : ∃ q, jnB 11 (o0, o1, o2) (x0, x1, x2) 2 t 2 = q := ⟨_, rfl⟩
          have hs : jnB 11 (o0, o1, o2) (x0, x1, x2) 2 t 3 = put3 (t0, t1, t2) (o2 && x2) 2 := by rw [← ht]; rfl
          rw [ht] at J
          have HJ := Lib.hid J; have HS := Lib.hid hs
          obtain ⟨⟨c0, c1, c2⟩, ⟨d0, d1, d2⟩, ⟨e0, e1, e2⟩, f0, f1, f2⟩ := J.cells
          have hj := max_any 2 2
          rw [show max (2 : Int) 2 = 2 from rfl] at hj
          have HM := Lib.hid hj
          clear ht J hs hj
          cases o2
          · clear HM
            go_wp2_with fail
            go_round
            case rel => exact .inr (.inr (.inr (⟨rfl, by rw [HS.out, Bool.false_and, put3_no]; exact HJ.out⟩)))
            case measure => simp [intOf]
          · cases x2
            · clear HM
              go_wp2_with fail
              go_round
              case rel => exact .inr (.inr (.inr (⟨rfl, by rw [HS.out, Bool.and_false, put3_no]; exact HJ.out⟩)))
              case measure => simp [intOf]
            · go_wp2_with fail
              refine (HM.out _).mono ?_
              rintro e w1 ⟨rfl, rfl⟩
              go_wp2_with fail
              go_round
              case rel => exact .inr (.inr (.inr (⟨rfl, by rw [HS.out, Bool.and_self]; exact HJ.out.put 2 (by omega)⟩)))
              case measure => simp [intOf]
        · go_wp2_with fail
          go_round
          case rel => exact .inr (.inr (.inr (⟨rfl, by show JW _ _ _ (jnB 11 (o0, o1, o2) (x0, x1, x2) 2 (jnA 11 (o0, o1, o2) (x0, x1, x2) 2) 3) _; rw [HT.out]; exact J⟩)))
          case measure => simp [intOf]
    · rw [HR.out] at J
      have HJ := Lib.hid J
      obtain ⟨⟨c0, c1, c2⟩, ⟨d0, d1, d2⟩, ⟨e0, e1, e2⟩, f0, f1, f2⟩ := J.cells
      obtain ⟨r0, r1, r2⟩ := blk3 J.kr
      have z0 := J.kr.frozen 0; have z1 := J.kr.frozen 1; have z2 := J.kr.frozen 2
      obtain ⟨s1, s2⟩ := store3 J.kr J.b (by omega) (.bool R0) (.bool R1) (.bool R2)
      have F1 := Lib.hid s1; have F2 := Lib.hid s2
      clear J s1 s2
      go_wp2_with fail
      exact bodyPost_ret (v := .agg #[.bool R0, .bool R1, .bool R2]) (results_cell_row rfl _ _ _ _ _ _ _ (by rfl) F1.out Tryd.underlying66 rfl (by kernel_rfl)) rfl ⟨rfl, F2.out⟩
end
end Go.Proofs.YtmjpjllbfgkfbaaDoor
